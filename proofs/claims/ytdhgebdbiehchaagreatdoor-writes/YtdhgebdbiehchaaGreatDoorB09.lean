/- The contract of given: what is asked ahead of each script is answered alike. The contracts of plays, where no disk is made, and of Numbers. What a log says, which of its entries live, and the table of an index, as plain functions. Nothing of the program is named here. What a look answers, as a plain function on bytes. -/
import Derived.Test.YtdhgebdbiehchaaGreatDoorB08
namespace Go.Proofs.YtdhgebdbiehchaaGreatDoor
open Go.RowKit
set_option linter.unusedSimpArgs false
set_option linter.unusedVariables false

def OpV.sized (o : OpV) : Prop := o.s.size ≤ 140737488351232 ∧ o.t.size ≤ 140737488351232 ∧ o.u.size ≤ 140737488351232

/-- The ten cells of a step, from an address on. -/
def OpAt (w : World) (b off : Nat) (o : OpV) : Prop :=
  w.cell? ⟨b, off, none⟩ = some (.int .i64 o.kind) ∧ w.cell? ⟨b, off + 1, none⟩ = some (.int .i64 o.at') ∧ w.cell? ⟨b, off + 2, none⟩ = some (.int .i64 o.x) ∧ w.cell? ⟨b, off + 3, none⟩ = some (.int .i64 o.y) ∧
  w.cell? ⟨b, off + 4, none⟩ = some (.string o.s) ∧ w.cell? ⟨b, off + 5, none⟩ = some (.string o.t) ∧ w.cell? ⟨b, off + 6, none⟩ = some (.string o.u) ∧
  w.cell? ⟨b, off + 7, none⟩ = some (.int .i64 o.c0) ∧ w.cell? ⟨b, off + 8, none⟩ = some (.int .i64 o.c1) ∧ w.cell? ⟨b, off + 9, none⟩ = some (.int .i64 o.c2)
theorem OpAt.below {w w' : World} {b off : Nat} {o : OpV} (h : OpAt w b off o) {n : Nat} (hb : Below n w w') (hl : b < n) : OpAt w' b off o := by
  obtain ⟨h0, h1, h2, h3, h4, h5, h6, h7, h8, h9⟩ := h
  have f : ∀ i v, w.cell? ⟨b, i, none⟩ = some v → w'.cell? ⟨b, i, none⟩ = some v := fun i v hv => (hb.cell (p := ⟨b, i, none⟩) hl).trans hv
  exact ⟨f _ _ h0, f _ _ h1, f _ _ h2, f _ _ h3, f _ _ h4, f _ _ h5, f _ _ h6, f _ _ h7, f _ _ h8, f _ _ h9⟩

/-- The ten steps that are given. -/
def givenOps (s : ByteArray) : List OpV :=
  [⟨1, 0, 0, 32, ⟨#[97]⟩, ⟨#[]⟩, ⟨#[]⟩, 0, 0, 0⟩, ⟨2, 0, 0, 0, s, ⟨#[]⟩, ⟨#[]⟩, 0, 0, 0⟩, ⟨4, 0, 0, 0, s, ⟨#[]⟩, ⟨#[97]⟩, 0, 0, 0⟩, ⟨5, 0, 5000, 0, ⟨#[]⟩, ⟨#[]⟩, ⟨#[]⟩, 0, 0, 0⟩, ⟨6, 0, 0, 0, ⟨#[]⟩, ⟨#[]⟩, ⟨#[]⟩, 40, 7, 2⟩,
   ⟨7, 0, 0, 0, ⟨#[97]⟩, ⟨#[120]⟩, ⟨#[]⟩, 0, 0, 0⟩, ⟨9, 0, 0, 0, ⟨#[]⟩, ⟨#[]⟩, ⟨#[]⟩, 0, 0, 0⟩, ⟨11, 0, 0, 0, ⟨#[]⟩, ⟨#[]⟩, ⟨#[]⟩, 0, 0, 0⟩, ⟨12, 0, 0, 0, ⟨#[97]⟩, ⟨#[]⟩, ⟨#[]⟩, 0, 0, 0⟩, ⟨13, 0, 0, 0, ⟨#[]⟩, ⟨#[]⟩, ⟨#[]⟩, 0, 0, 0⟩]
def givenCells (s : ByteArray) : Array Value := ((givenOps s).flatMap OpV.cells).toArray

theorem given_lit (w : World) (s : ByteArray) (t : TypeId) (j : Nat) (hj : j < 10) : OpAt (w.alloc (.cells (givenCells s) t)) w.heap.size (j * 10) ((givenOps s)[j]'hj) := by
  have f : ∀ i, (w.alloc (.cells (givenCells s) t)).cell? ⟨w.heap.size, i, none⟩ = (givenCells s)[i]? := fun i => World.cell?_alloc_new w _ t i
  unfold OpAt
  rw [f, f, f, f, f, f, f, f, f, f]
  match j, hj with
  | 0, _ => exact ⟨rfl, rfl, rfl, rfl, rfl, rfl, rfl, rfl, rfl, rfl⟩
  | 1, _ => exact ⟨rfl, rfl, rfl, rfl, rfl, rfl, rfl, rfl, rfl, rfl⟩
  | 2, _ => exact ⟨rfl, rfl, rfl, rfl, rfl, rfl, rfl, rfl, rfl, rfl⟩
  | 3, _ => exact ⟨rfl, rfl, rfl, rfl, rfl, rfl, rfl, rfl, rfl, rfl⟩
  | 4, _ => exact ⟨rfl, rfl, rfl, rfl, rfl, rfl, rfl, rfl, rfl, rfl⟩
  | 5, _ => exact ⟨rfl, rfl, rfl, rfl, rfl, rfl, rfl, rfl, rfl, rfl⟩
  | 6, _ => exact ⟨rfl, rfl, rfl, rfl, rfl, rfl, rfl, rfl, rfl, rfl⟩
  | 7, _ => exact ⟨rfl, rfl, rfl, rfl, rfl, rfl, rfl, rfl, rfl, rfl⟩
  | 8, _ => exact ⟨rfl, rfl, rfl, rfl, rfl, rfl, rfl, rfl, rfl, rfl⟩
  | 9, _ => exact ⟨rfl, rfl, rfl, rfl, rfl, rfl, rfl, rfl, rfl, rfl⟩
theorem given_sized {s : ByteArray} (hs : s.size ≤ 1000) : ∀ o ∈ givenOps s, o.sized := by
  have z0 : (⟨#[]⟩ : ByteArray).size = 0 := rfl
  have z1 : (⟨#[97]⟩ : ByteArray).size = 1 := rfl
  have z2 : (⟨#[120]⟩ : ByteArray).size = 1 := rfl
  intro o ho
  simp only [givenOps, List.mem_cons, List.not_mem_nil, or_false] at ho
  rcases ho with rfl | rfl | rfl | rfl | rfl | rfl | rfl | rfl | rfl | rfl
  all_goals
    unfold OpV.sized
    dsimp only
    simp only [z0, z1, z2]
    omega

/-- What is asked: all steps of the kinds up to hi are answered alike. -/
def Asks (hi : Int) : Prop := ∀ o : OpV, 1 ≤ o.kind → o.kind ≤ hi → o.sized → Reads o

set_option maxRecDepth 100000 in
set_option maxHeartbeats 1600000 in
theorem given_any (b : Nat) (hi : Int) (w : World) (h1 : 1 ≤ hi) (h4 : hi ≤ 4) (hA : Asks hi) (hw : b < w.heap.size) (hH : HalvesAt w) :
    Calls Tryz.prog 32 #[.pointer (some ⟨b, 0, none⟩), .int .i64 1, .int .i64 hi] w fun e w' => e = .returned (.bool true) ∧ Below w.heap.size w w' := by
  have HH : Hid (HalvesAt w) := hH
  clear hH
  go_enter Tryz.func32, Tryz.ntmps32
  go_wp2_with fail
  refine (head_any 100 7 32 _ (by omega) (by omega) (by omega) (by omega) (by omega) (by omega)).mono ?_
  rintro e w1 ⟨rfl, hb1⟩
  obtain ⟨hd, hhd⟩ : ∃ t, t = S (sealL ([76, 71] ++ lowL (100 : Int).toNat 2 ++ lowL (7 : Int).toNat 4 ++ lowL (32 : Int).toNat 2)) := ⟨_, rfl⟩
  have z1 : hd.size ≤ 100 := by rw [hhd, S_size, sealL_length]; simp [lowL_length]
  rw [← hhd]
  clear hhd
  go_wp2_with fail
  refine (block_any w1.heap.size 1 [(true, ⟨#[97]⟩, ⟨#[120]⟩)] _ (by simp) ?_ (by simp) ?_).mono ?_
  · intro i hi
    match i, hi with
    | 0, _ => simp
  · intro e he
    simp at he
    subst he
    exact ⟨by decide, by decide⟩
  rintro e w2 ⟨rfl, hb2⟩
  obtain ⟨bl, hbl⟩ : ∃ t, t = S (blockL [(true, ⟨#[97]⟩, ⟨#[120]⟩)]) := ⟨_, rfl⟩
  have z2 : bl.size ≤ 100 := by
    rw [hbl, S_size]; decide +kernel
  rw [← hbl]
  clear hbl
  have hb12 : Below w.heap.size w w2 := hb1.trans ((((Below.refl w1.heap.size w1).alloc (Nat.le_refl _) _).trans (hb2.mono (by simp))).mono hb1.size)
  clear hb1 hb2
  have q1 : ¬ 9223372036854775807 < hd.size + bl.size := by omega
  have hbz := hb12.size
  go_wp2
  go_loopw [9] (fun i wr => ∃ (k : Nat), k ≤ 10 ∧ i = .int .i64 k ∧ (∀ j (hj : j < 10), OpAt wr w2.heap.size (j * 10) ((givenOps (hd ++ bl))[j]'hj)) ∧ w2.heap.size < wr.heap.size ∧ Below w.heap.size w wr) (fun i _ => 10 - (intOf i).toNat)
  case atStart => exact ⟨0, by omega, rfl, given_lit w2 (hd ++ bl) _, by simp, hb12.alloc hbz _⟩
  case round =>
    obtain ⟨k, hk, rfl, hops, hz2, hb⟩ := hrel
    by_cases hlt : k < 10
    · have hop := hops k hlt
      have hsz : ((givenOps (hd ++ bl))[k]'hlt).sized := given_sized (by simp; omega) _ (List.getElem_mem _)
      have hrd := hA ((givenOps (hd ++ bl))[k]'hlt)
      have HO : Hid (∀ j (hj : j < 10), OpAt wr w2.heap.size (j * 10) ((givenOps (hd ++ bl))[j]'hj)) := hops
      clear hops
      generalize (givenOps (hd ++ bl))[k]'hlt = o at *
      obtain ⟨kind, at', x, y, s, t, u, c0, c1, c2⟩ := o
      obtain ⟨h0, h1', h2, h3, h4', h5, h6, h7, h8, h9⟩ := hop
      dsimp only at *
      by_cases hk1 : 1 ≤ kind ∧ kind ≤ hi
      · obtain ⟨hka, hkb⟩ := hk1
        have hrd' : Reads _ := hrd hka hkb hsz
        go_wp2_with fail
        refine (step_reads ⟨kind, at', x, y, s, t, u, c0, c1, c2⟩ b _ hka (by dsimp only; omega) hrd' (HH.out.below hb HH.out.1)).mono ?_
        rintro e w3 ⟨rfl, hb3⟩
        clear h0 h1' h2 h3 h4' h5 h6 h7 h8 h9
        go_wp2
        go_roundw
        case rel => exact ⟨k + 1, by omega, by go_num, fun j hj => (HO.out j hj).below hb3 hz2, Nat.lt_of_lt_of_le hz2 hb3.size, hb.trans (hb3.mono hb.size)⟩
        case measure => simp [intOf]; omega
      · clear hrd
        rcases (show kind < 1 ∨ (1 ≤ kind ∧ hi < kind) from by omega) with hka | ⟨hka, hkb⟩
        all_goals
          clear hk1
          go_wp2
          go_roundw
          case rel => exact ⟨k + 1, by omega, by go_num, HO.out, hz2, hb⟩
          case measure => simp [intOf]; omega
    · go_wp2
      go_ret
      exact ⟨rfl, hb⟩
end Go.Proofs.YtdhgebdbiehchaaGreatDoor
namespace Go.Proofs.YtdhgebdbiehchaaGreatDoor
open Go.RowKit
set_option linter.unusedSimpArgs false
set_option linter.unusedVariables false

/-- A script lies in memory: a slice, nil or not, whose elements are these steps. -/
def ScriptAt (w : World) (a : Option Addr) (L : List OpV) : Prop :=
  L = [] ∨ ∃ b off, a = some ⟨b, off, none⟩ ∧ b < w.heap.size ∧ ∀ (k : Nat) (h : k < L.length), OpAt w b (off + k * 10) L[k]

set_option maxRecDepth 100000 in
set_option maxHeartbeats 1600000 in
theorem plays_any (a : Option Addr) (L : List OpV) (cap : Nat) (hi : Int) (w : World) (h1 : 1 ≤ hi) (h4 : hi ≤ 4) (hA : Asks hi) (hS : ScriptAt w a L) (hL : ∀ o ∈ L, o.sized) (hn : L.length ≤ 140737488351232) (hH : HalvesAt w) :
    Calls Tryz.prog 12 #[.slice a L.length cap, .int .i64 1, .int .i64 hi] w fun e w' => e = .returned (.bool true) ∧ Below w.heap.size w w' := by
  have HH : Hid (HalvesAt w) := hH
  clear hH
  go_enter Tryz.func12, Tryz.ntmps12
  go_wp2_with fail
  refine (given_any w.heap.size hi _ h1 h4 hA (by simp) (HH.out.below ((Below.refl _ _).alloc (Nat.le_refl _) _) HH.out.1)).mono ?_
  rintro e w1 ⟨rfl, hb1⟩
  have hz1 : w.heap.size < w1.heap.size := by have := hb1.size; simp at this; omega
  have hb01 : Below w.heap.size w w1 := ((Below.refl _ _).alloc (Nat.le_refl _) _).trans (hb1.mono (by simp))
  have hW1 : WorldAt w1 w.heap.size := by
    refine ⟨hz1, ?_, ?_⟩
    · rw [hb1.cell (p := ⟨w.heap.size, 0, none⟩) (by simp)]; simp
    · rw [hb1.cell (p := ⟨w.heap.size, 1, none⟩) (by simp)]; simp
  clear hb1
  go_wp2
  go_loopw [9] (fun i wr => ∃ (k : Nat), k ≤ L.length ∧ i = .int .i64 k ∧ WorldAt wr w.heap.size ∧ Below w.heap.size w wr) (fun i _ => L.length - (intOf i).toNat)
  case atStart => exact ⟨0, by omega, rfl, hW1, hb01⟩
  case round =>
    obtain ⟨k, hk, rfl, hW, hb⟩ := hrel
    by_cases hlt : k < L.length
    · rcases hS with hS | ⟨b, off, rfl, hbw, hops⟩
      · subst hS; simp at hlt
      have hop := (hops k hlt).below hb hbw
      have hsz := hL L[k] (List.getElem_mem _)
      have hrd := hA L[k]
      have HW : Hid (WorldAt wr w.heap.size) := hW
      clear hops hW
      generalize L[k] = o at *
      obtain ⟨kind, at', x, y, s, t, u, c0, c1, c2⟩ := o
      obtain ⟨g0, g1, g2, g3, g4, g5, g6, g7, g8, g9⟩ := hop
      dsimp only at *
      by_cases hk1 : 1 ≤ kind ∧ kind ≤ hi
      · obtain ⟨hka, hkb⟩ := hk1
        have hrd' : Reads _ := hrd hka hkb hsz
        go_wp2_with fail
        refine (step_reads ⟨kind, at', x, y, s, t, u, c0, c1, c2⟩ _ _ hka (by dsimp only; omega) hrd' (HH.out.below hb HH.out.1)).mono ?_
        rintro e w3 ⟨rfl, hb3⟩
        clear g0 g1 g2 g3 g4 g5 g6 g7 g8 g9
        go_wp2
        go_roundw
        case rel => exact ⟨k + 1, by omega, by go_num, HW.out.below hb3, hb.trans (hb3.mono hb.size)⟩
        case measure => simp [intOf]; omega
      · clear hrd
        rcases (show kind < 1 ∨ (1 ≤ kind ∧ hi < kind) from by omega) with hka | ⟨hka, hkb⟩
        all_goals
          clear hk1
          go_wp2
          go_roundw
          case rel => exact ⟨k + 1, by omega, by go_num, HW.out, hb⟩
          case measure => simp [intOf]; omega
    · have hW' := hW
      obtain ⟨hwz, hw0, hw1⟩ := hW'
      have HW : Hid (WorldAt wr w.heap.size) := hW
      clear hW hS
      go_wp2
      refine wp_loop_rounds 1 ?_
      rw [rounds_succ]
      go_wp2_with fail
      refine (looks_any _ _ HW.out).mono ?_
      rintro e w3 ⟨rfl, hb3⟩
      go_wp2
      go_ret
      exact ⟨rfl, hb.trans (hb3.mono hb.size)⟩

theorem asks_one : Asks 1 := fun o h1 h2 _ w _ => reads_number o w (by omega)

set_option maxHeartbeats 400000 in
theorem numbers_any (a : Option Addr) (L : List OpV) (cap : Nat) (w : World) (hS : ScriptAt w a L) (hL : ∀ o ∈ L, o.sized) (hn : L.length ≤ 140737488351232) (hH : HalvesAt w) :
    Calls Tryz.prog 3 #[.slice a L.length cap] w fun e w' => e = .returned (.bool true) ∧ Below w.heap.size w w' := by
  go_enter Tryz.func3, Tryz.ntmps3
  go_wp2_with fail
  refine (plays_any a L cap 1 _ (by omega) (by omega) asks_one hS hL hn hH).mono ?_
  rintro e w1 ⟨rfl, hb1⟩
  go_wp2
  go_ret
  exact ⟨rfl, hb1⟩
end Go.Proofs.YtdhgebdbiehchaaGreatDoor
namespace Go.Proofs.YtdhgebdbiehchaaGreatDoor
open Go.RowKit
set_option linter.unusedSimpArgs false
set_option linter.unusedVariables false

/-- An entry, and where it stands. -/
structure Sd where
  put : Bool
  key : List UInt8
  val : List UInt8
  blk : Nat
  no : Nat

def saids (a : Nat) : Nat → List Ent → List Sd
  | _, [] => []
  | i, e :: es => ⟨e.put, e.key, e.val, a, i⟩ :: saids a (i + 1) es
theorem saids_length (a i : Nat) (es : List Ent) : (saids a i es).length = es.length := by
  induction es generalizing i with
  | nil => rfl
  | cons e es ih => simp [saids, ih]
theorem saids_snoc (a i : Nat) (es : List Ent) (e : Ent) : saids a i (es ++ [e]) = saids a i es ++ [⟨e.put, e.key, e.val, a, i + es.length⟩] := by
  induction es generalizing i with
  | nil => rfl
  | cons f es ih => simp [saids, ih]; omega
theorem saids_take {a : Nat} {es : List Ent} {k : Nat} (h : k < es.length) : saids a 0 (es.take (k + 1)) = saids a 0 (es.take k) ++ [⟨es[k].put, es[k].key, es[k].val, a, k⟩] := by
  rw [List.take_succ_eq_append_getElem h, saids_snoc]
  simp; omega

/-- The entries of all right blocks from a byte on, and where they end. -/
def readF : Nat → List UInt8 → Int → Nat → List Sd × Nat
  | 0, _, _, a => ([], a)
  | n + 1, log, blk, a => match blockP log a blk with
    | none => ([], a)
    | some (es, k) => (saids a 0 es ++ (readF n log blk (a + k)).1, (readF n log blk (a + k)).2)
def readL (log : List UInt8) (blk : Int) (a : Nat) : List Sd × Nat := readF (log.length - a) log blk a
theorem readF_fuel (log : List UInt8) (blk : Int) (n m a : Nat) (hn : log.length - a ≤ n) (hm : log.length - a ≤ m) : readF n log blk a = readF m log blk a := by
  induction n generalizing m a with
  | zero =>
    cases m with
    | zero => rfl
    | succ m =>
      rw [readF, readF]
      cases h : blockP log a blk with
      | none => rfl
      | some x =>
        have := blockP_some (es := x.1) (k := x.2) h
        omega
  | succ n ih =>
    cases m with
    | zero =>
      rw [readF, readF]
      cases h : blockP log a blk with
      | none => rfl
      | some x =>
        have := blockP_some (es := x.1) (k := x.2) h
        omega
    | succ m =>
      rw [readF, readF]
      cases h : blockP log a blk with
      | none => rfl
      | some x =>
        obtain ⟨es, k⟩ := x
        have := blockP_some h
        simp only
        rw [ih m (a + k) (by omega) (by omega)]
theorem readL_none {log : List UInt8} {blk : Int} {a : Nat} (h : blockP log a blk = none) : readL log blk a = ([], a) := by
  unfold readL
  cases log.length - a with
  | zero => rfl
  | succ n => rw [readF, h]
theorem readL_some {log : List UInt8} {blk : Int} {a k : Nat} {es : List Ent} (h : blockP log a blk = some (es, k)) : readL log blk a = (saids a 0 es ++ (readL log blk (a + k)).1, (readL log blk (a + k)).2) := by
  have := blockP_some h
  unfold readL
  obtain ⟨n, hn⟩ : ∃ n, log.length - a = n + 1 := ⟨log.length - a - 1, by omega⟩
  rw [hn, readF, h]
  simp only
  rw [readF_fuel log blk n (log.length - (a + k)) (a + k) (by omega) (Nat.le_refl _)]

/-- Those that are a key's last, and puts, in order. -/
def liveL : List Sd → List Sd
  | [] => []
  | x :: l => if x.put = true ∧ ∀ y ∈ l, y.key ≠ x.key then x :: liveL l else liveL l
theorem liveL_mem {l : List Sd} {x : Sd} (h : x ∈ liveL l) : x ∈ l ∧ x.put = true := by
  induction l with
  | nil => simp [liveL] at h
  | cons y l ih =>
    rw [liveL] at h
    split at h
    · rename_i hc
      rcases List.mem_cons.1 h with rfl | h
      · exact ⟨List.mem_cons_self, hc.1⟩
      · exact ⟨List.mem_cons_of_mem _ (ih h).1, (ih h).2⟩
    · exact ⟨List.mem_cons_of_mem _ (ih h).1, (ih h).2⟩
theorem liveL_le (l : List Sd) : (liveL l).length ≤ l.length := by
  induction l with
  | nil => simp [liveL]
  | cons x l ih =>
    rw [liveL]
    split <;> simp <;> omega
/-- By one entry more. -/
theorem liveL_snoc (l : List Sd) (x : Sd) : liveL (l ++ [x]) = (liveL l).filter (fun y => decide (y.key ≠ x.key)) ++ (if x.put = true then [x] else []) := by
  induction l with
  | nil =>
    simp only [List.nil_append, liveL, List.filter_nil]
    by_cases h : x.put = true <;> simp [h]
  | cons y l ih =>
    rw [List.cons_append, liveL, liveL, ih]
    by_cases h1 : y.put = true ∧ ∀ z ∈ l, z.key ≠ y.key
    · rw [if_pos h1]
      by_cases h2 : x.key = y.key
      · rw [if_neg (by rintro ⟨_, h⟩; exact h x (by simp) h2)]
        simp [h2]
      · rw [if_pos ⟨h1.1, fun z hz => by
          rcases List.mem_append.1 hz with hz | hz
          · exact h1.2 z hz
          · simp at hz; subst hz; exact h2⟩]
        rw [List.filter_cons_of_pos (by simpa using fun h => h2 h.symm)]
        rfl
    · rw [if_neg h1, if_neg (by rintro ⟨ha, hb⟩; exact h1 ⟨ha, fun z hz => hb z (by simp [hz])⟩)]
/-- No two of them have one key. -/
theorem liveL_keys (l : List Sd) : (liveL l).Pairwise (fun x y => x.key ≠ y.key) := by
  induction l with
  | nil => exact List.Pairwise.nil
  | cons x l ih =>
    rw [liveL]
    split
    · rename_i h
      exact List.Pairwise.cons (fun y hy => fun e => h.2 y (liveL_mem hy).1 e.symm) ih
    · exact ih

/-- Places rise. -/
def placeLt (x y : Sd) : Prop := x.blk < y.blk ∨ (x.blk = y.blk ∧ x.no < y.no)
theorem saids_rise (a i : Nat) (es : List Ent) : (saids a i es).Pairwise placeLt ∧ ∀ x ∈ saids a i es, x.blk = a ∧ i ≤ x.no ∧ x.no < i + es.length := by
  induction es generalizing i with
  | nil => exact ⟨List.Pairwise.nil, by simp [saids]⟩
  | cons e es ih =>
    obtain ⟨h1, h2⟩ := ih (i + 1)
    refine ⟨List.Pairwise.cons (fun y hy => .inr ⟨?_, ?_⟩) h1, fun x hx => ?_⟩
    · exact (h2 y hy).1.symm
    · have := h2 y hy; simp; omega
    · rcases List.mem_cons.1 hx with rfl | hx
      · simp
      · have := h2 x hx; simp; omega
theorem readF_rise (log : List UInt8) (blk : Int) (n a : Nat) : (readF n log blk a).1.Pairwise placeLt ∧ (∀ x ∈ (readF n log blk a).1, a ≤ x.blk ∧ x.blk < log.length ∧ x.no < 255) ∧ a ≤ (readF n log blk a).2 ∧ (a ≤ log.length → (readF n log blk a).2 ≤ log.length) := by
  induction n generalizing a with
  | zero => exact ⟨List.Pairwise.nil, by simp [readF], Nat.le_refl _, fun h => h⟩
  | succ n ih =>
    rw [readF]
    cases h : blockP log a blk with
    | none => exact ⟨List.Pairwise.nil, by simp, Nat.le_refl _, fun h => h⟩
    | some x =>
      obtain ⟨es, k⟩ := x
      have hb := blockP_some h
      obtain ⟨h1, h2, h3, h4⟩ := ih (a + k)
      obtain ⟨s1, s2⟩ := saids_rise a 0 es
      simp only
      refine ⟨?_, ?_, by omega, fun _ => h4 (by omega)⟩
      · rw [List.pairwise_append]
        refine ⟨s1, h1, fun x hx y hy => .inl ?_⟩
        have := s2 x hx
        have := h2 y hy
        omega
      · intro x hx
        rcases List.mem_append.1 hx with hx | hx
        · have := s2 x hx; omega
        · have := h2 x hx; omega
theorem liveL_sub (l : List Sd) : (liveL l).Sublist l := by
  induction l with
  | nil => exact List.Sublist.refl _
  | cons x l ih =>
    rw [liveL]
    split
    · exact ih.cons_cons x
    · exact ih.cons x
theorem liveL_rise {l : List Sd} (h : l.Pairwise placeLt) : (liveL l).Pairwise placeLt := h.sublist (liveL_sub l)

/-- What stands in a slot: a key's number, and its place. -/
structure Slt where
  num : Nat
  blk : Nat
  no : Nat
def awayN (n : Nat) (x : Slt) (a : Nat) : Nat := (a + n - x.num % n) % n
theorem awayN_lt {n : Nat} (h : 0 < n) (x : Slt) (a : Nat) : awayN n x a < n := Nat.mod_lt _ h

/-- How many slots. -/
def sizeF : Nat → Nat → Nat → Nat
  | 0, _, s => s
  | f + 1, n, s => if s ≤ 5 * n / 4 then sizeF f n (2 * s) else s
def sizeL (n : Nat) : Nat := sizeF 12 n 4

/-- Put in: what is nearer to its home gives way, and goes on. -/
def putF : Nat → List (Option Slt) → Slt → Nat → List (Option Slt)
  | 0, t, _, _ => t
  | f + 1, t, x, a => match t[a]? with
    | some (some y) => if awayN t.length y a < awayN t.length x a then putF f (t.set a (some x)) y ((a + 1) % t.length) else putF f t x ((a + 1) % t.length)
    | _ => t.set a (some x)
def putL (t : List (Option Slt)) (x : Slt) : List (Option Slt) := putF t.length t x (x.num % t.length)
theorem putF_length (f : Nat) (t : List (Option Slt)) (x : Slt) (a : Nat) : (putF f t x a).length = t.length := by
  induction f generalizing t x a with
  | zero => rfl
  | succ f ih =>
    rw [putF]
    split
    · split
      · rw [ih]; simp
      · rw [ih]
    · simp
/-- From here on a free slot is met within so many steps. -/
def gap (n e a : Nat) : Nat := (e + n - a) % n
theorem gap_step {n e a : Nat} (ha : a < n) (he : e < n) (hne : a ≠ e) : gap n e ((a + 1) % n) + 1 = gap n e a := by
  unfold gap
  by_cases h : a + 1 < n
  · rw [Nat.mod_eq_of_lt h]
    by_cases h2 : a < e
    · have e1 : e + n - (a + 1) = (e - (a + 1)) + n := by omega
      have e2 : e + n - a = (e - a) + n := by omega
      rw [e1, e2, Nat.add_mod_right, Nat.add_mod_right, Nat.mod_eq_of_lt (by omega), Nat.mod_eq_of_lt (by omega)]
      omega
    · rw [Nat.mod_eq_of_lt (a := e + n - (a + 1)) (by omega), Nat.mod_eq_of_lt (a := e + n - a) (by omega)]
      omega
  · have : a + 1 = n := by omega
    rw [this, Nat.mod_self, Nat.sub_zero, Nat.add_mod_right, Nat.mod_eq_of_lt he, Nat.mod_eq_of_lt (a := e + n - a) (by omega)]
    omega
theorem gap_lt {n e a : Nat} (hn : 0 < n) : gap n e a < n := Nat.mod_lt _ hn
/-- Any store of steps that suffices tells the same. -/
theorem putF_fuel (n e : Nat) (he : e < n) : ∀ (f g : Nat) (t : List (Option Slt)) (x : Slt) (a : Nat), t.length = n → a < n → t[e]? = some none → gap n e a < f → gap n e a < g → putF f t x a = putF g t x a := by
  intro f
  induction f with
  | zero => intro g t x a _ _ _ h _; omega
  | succ f ih =>
    intro g t x a hl ha hE hf hg
    obtain ⟨g, rfl⟩ : ∃ g', g = g' + 1 := ⟨g - 1, by omega⟩
    rw [putF, putF]
    split
    · rename_i y hy
      have hne : a ≠ e := by
        intro h; subst h; rw [hE] at hy; cases hy
      have hs := gap_step ha he hne
      have ha' : (a + 1) % n < n := Nat.mod_lt _ (by omega)
      rw [hl]
      split
      · exact ih g _ _ _ (by simp [hl]) ha' (by rw [List.getElem?_set_ne hne]; exact hE) (by omega) (by omega)
      · exact ih g _ _ _ hl ha' hE (by omega) (by omega)
    · rfl
/-- How many are full. -/
def fullN (t : List (Option Slt)) : Nat := (t.filter Option.isSome).length
theorem fullN_set {t : List (Option Slt)} {a : Nat} {x : Slt} (h : t[a]? = some none) : fullN (t.set a (some x)) = fullN t + 1 := by
  induction t generalizing a with
  | nil => simp at h
  | cons y t ih =>
    cases a with
    | zero => simp at h; subst h; simp [fullN]
    | succ a =>
      have := ih (a := a) (by simpa using h)
      unfold fullN at this ⊢
      rw [List.set_cons_succ, List.filter_cons, List.filter_cons]
      split <;> simp [this]
theorem fullN_swap {t : List (Option Slt)} {a : Nat} {x y : Slt} (h : t[a]? = some (some y)) : fullN (t.set a (some x)) = fullN t := by
  induction t generalizing a with
  | nil => simp at h
  | cons z t ih =>
    cases a with
    | zero => simp at h; subst h; simp [fullN]
    | succ a =>
      have := ih (a := a) (by simpa using h)
      unfold fullN at this ⊢
      rw [List.set_cons_succ, List.filter_cons, List.filter_cons]
      split <;> simp [this]
theorem fullN_free {t : List (Option Slt)} (h : fullN t < t.length) : ∃ e, e < t.length ∧ t[e]? = some none := by
  induction t with
  | nil => simp at h
  | cons y t ih =>
    cases y with
    | none => exact ⟨0, by simp, rfl⟩
    | some y =>
      obtain ⟨e, h1, h2⟩ := ih (by simp [fullN] at h ⊢; omega)
      exact ⟨e + 1, by simp; omega, by simpa using h2⟩
theorem fullN_put (n e : Nat) (he : e < n) : ∀ (f : Nat) (t : List (Option Slt)) (x : Slt) (a : Nat), t.length = n → a < n → t[e]? = some none → gap n e a < f → fullN (putF f t x a) = fullN t + 1 := by
  intro f
  induction f with
  | zero => intro t x a _ _ _ h; omega
  | succ f ih =>
    intro t x a hl ha hE hf
    rw [putF]
    split
    · rename_i y hy
      have hne : a ≠ e := by
        intro h; subst h; rw [hE] at hy; cases hy
      have hs := gap_step ha he hne
      have ha' : (a + 1) % n < n := Nat.mod_lt _ (by omega)
      rw [hl]
      split
      · rw [ih _ _ _ (by simp [hl]) ha' (by rw [List.getElem?_set_ne hne]; exact hE) (by omega), fullN_swap hy]
      · rw [ih _ _ _ hl ha' hE (by omega)]
    · rename_i hx
      have hsome : t[a]? = some t[a] := List.getElem?_eq_getElem (by omega)
      cases hy : t[a] with
      | none => exact fullN_set (by rw [hsome, hy])
      | some y => exact absurd (by rw [hsome, hy]) (hx y)

theorem sizeF_big (f n s : Nat) (h : 5 * n / 4 < s * 2 ^ f) : 5 * n / 4 < sizeF f n s := by
  induction f generalizing s with
  | zero => simpa [sizeF] using h
  | succ f ih =>
    rw [sizeF]
    split
    · exact ih (2 * s) (by rw [Nat.pow_succ] at h; rw [Nat.mul_comm 2 s, Nat.mul_assoc, Nat.mul_comm 2]; exact h)
    · omega
theorem sizeF_bound (f n s b : Nat) (h0 : s ≤ b) (h : 2 * (5 * n / 4) ≤ b) : sizeF f n s ≤ b := by
  induction f generalizing s with
  | zero => exact h0
  | succ f ih =>
    rw [sizeF]
    split
    · exact ih (2 * s) (by omega)
    · exact h0
theorem sizeF_ge (f n s : Nat) : s ≤ sizeF f n s := by
  induction f generalizing s with
  | zero => exact Nat.le_refl _
  | succ f ih =>
    rw [sizeF]
    split
    · exact Nat.le_trans (by omega) (ih (2 * s))
    · exact Nat.le_refl _
theorem sizeL_big {n : Nat} (h : n ≤ 2000) : 5 * n / 4 < sizeL n := sizeF_big 12 n 4 (by omega)
theorem sizeL_bound {n : Nat} (h : n ≤ 2000) : 4 ≤ sizeL n ∧ sizeL n ≤ 5000 := ⟨sizeF_ge 12 n 4, sizeF_bound 12 n 4 5000 (by omega) (by omega)⟩

/-- A key's slot, as it is put in. -/
def sltOf (seed bits : Int) (x : Sd) : Slt := ⟨(numberI seed bits x.key).toNat, x.blk, x.no⟩
def fillL (n : Nat) (xs : List Slt) : List (Option Slt) := xs.foldl putL (List.replicate n none)
theorem fillL_snoc (n : Nat) (xs : List Slt) (x : Slt) : fillL n (xs ++ [x]) = putL (fillL n xs) x := by
  unfold fillL; rw [List.foldl_append]; rfl
theorem foldl_put_length (xs : List Slt) (t : List (Option Slt)) : (xs.foldl putL t).length = t.length := by
  induction xs generalizing t with
  | nil => rfl
  | cons x xs ih => rw [List.foldl_cons, ih, putL, putF_length]
theorem fillL_length (n : Nat) (xs : List Slt) : (fillL n xs).length = n := by
  unfold fillL; rw [foldl_put_length]; simp
theorem foldl_put_full (xs : List Slt) (t : List (Option Slt)) (h : fullN t + xs.length ≤ t.length) (hp : 0 < t.length) : fullN (xs.foldl putL t) = fullN t + xs.length := by
  induction xs generalizing t with
  | nil => rfl
  | cons x xs ih =>
    obtain ⟨e, h1, h2⟩ := fullN_free (t := t) (by simp at h; omega)
    have e1 : fullN (putL t x) = fullN t + 1 := fullN_put t.length e h1 t.length t x (x.num % t.length) rfl (Nat.mod_lt _ hp) h2 (gap_lt hp)
    have e2 : (putL t x).length = t.length := putF_length _ _ _ _
    rw [List.foldl_cons, ih (putL t x) (by rw [e1, e2]; simp at h; omega) (by omega), e1]
    simp; omega
theorem fillL_full {n : Nat} {xs : List Slt} (h : xs.length ≤ n) (hn : 0 < n) : fullN (fillL n xs) = xs.length := by
  have h0 : fullN (List.replicate n (none : Option Slt)) = 0 := by simp [fullN]
  unfold fillL
  rw [foldl_put_full xs _ (by rw [h0]; simp; omega) (by simp; omega), h0]
  omega
/-- There is a free slot for one more. -/
theorem fillL_free {n : Nat} {xs : List Slt} (h : xs.length < n) : ∃ e, e < n ∧ (fillL n xs)[e]? = some none := by
  have := fullN_free (t := fillL n xs) (by rw [fillL_length, fillL_full (by omega) (by omega)]; exact h)
  rwa [fillL_length] at this

/-- How far the farthest of the first so many stands from its home. -/
def farP (n : Nat) (t : List (Option Slt)) : Nat → Nat
  | 0 => 0
  | k + 1 => match t.getD k none with
    | none => farP n t k
    | some x => max (farP n t k) (awayN n x k)
theorem farP_none {n k : Nat} {t : List (Option Slt)} (h : t[k]? = some none) : farP n t (k + 1) = farP n t k := by
  rw [farP, List.getD, h]; rfl
theorem farP_some {n k : Nat} {t : List (Option Slt)} {x : Slt} (h : t[k]? = some (some x)) : farP n t (k + 1) = max (farP n t k) (awayN n x k) := by
  rw [farP, List.getD, h]; rfl
theorem farP_lt {n : Nat} (hn : 0 < n) (t : List (Option Slt)) (k : Nat) : farP n t k < n := by
  induction k with
  | zero => exact hn
  | succ k ih =>
    rw [farP]
    split
    · exact ih
    · have := awayN_lt hn (by assumption) k
      omega

/-- The bytes of a slot. -/
def sltB : Option Slt → List UInt8
  | none => lowL 0 10
  | some x => lowL 1 1 ++ lowL x.num 4 ++ lowL x.blk 4 ++ lowL x.no 1
theorem lowL_len (n k : Nat) : (lowL n k).length = k := by
  induction k generalizing n with
  | zero => rfl
  | succ k ih => simp [lowL, ih]
theorem sltB_length (x : Option Slt) : (sltB x).length = 10 := by
  cases x <;> simp [sltB, lowL_len]
def tabB (t : List (Option Slt)) : List UInt8 := t.flatMap sltB
theorem tabB_snoc (t : List (Option Slt)) (x : Option Slt) : tabB (t ++ [x]) = tabB t ++ sltB x := by simp [tabB]
theorem tabB_length (t : List (Option Slt)) : (tabB t).length = 10 * t.length := by
  induction t with
  | nil => rfl
  | cons x t ih =>
    show (sltB x ++ tabB t).length = _
    rw [List.length_append, ih, sltB_length, List.length_cons]; omega
def frontB (live slots far size sum : Nat) : List UInt8 := [73, 88] ++ lowL live 2 ++ lowL slots 2 ++ lowL far 2 ++ lowL size 4 ++ lowL sum 4
theorem frontB_length (a b c d e : Nat) : (frontB a b c d e).length = 16 := by simp [frontB, lowL_len]

/-- The index of a log whose live entries these are. -/
def tableOf (seed bits : Int) (live : List Sd) : List (Option Slt) := fillL (sizeL live.length) (live.map (sltOf seed bits))
def indexB (log : List UInt8) (seed bits : Int) (live : List Sd) : List UInt8 :=
  sealL (frontB live.length (sizeL live.length) (farP (sizeL live.length) (tableOf seed bits live) (sizeL live.length)) log.length (sumI log).toNat) ++ sealL (tabB (tableOf seed bits live))
/-- What Index answers; nothing: ErrForm. -/
def indexS (log : List UInt8) : Option (List UInt8) :=
  if 100000 < log.length then none
  else if headB log = false then none
  else if (readL log (hdBlk log) 14).2 < log.length then none
  else if 2000 < (liveL (readL log (hdBlk log) 14).1).length then none
  else some (indexB log (hdSeed log) (hdBits log) (liveL (readL log (hdBlk log) 14).1))

/-- How far something stands, as the document reckons it, and as the program does. -/
theorem awayN_ref {n a : Nat} (x : Slt) (ha : a < n) : awayN n x a = if a < x.num % n then a + n - x.num % n else a - x.num % n := by
  have hh : x.num % n < n := Nat.mod_lt _ (by omega)
  unfold awayN
  split
  · rw [Nat.mod_eq_of_lt (by omega)]
  · rw [show a + n - x.num % n = (a - x.num % n) + n by omega, Nat.add_mod_right, Nat.mod_eq_of_lt (by omega)]
theorem awayN_prog {n a : Nat} (x : Slt) (ha : a < n) : ((a : Int) - (x.num : Int) % (n : Int) + (n : Int)) % (n : Int) = (awayN n x a : Nat) := by
  have hh : x.num % n < n := Nat.mod_lt _ (by omega)
  have e : (a : Int) - (x.num : Int) % (n : Int) + (n : Int) = ((a + n - x.num % n : Nat) : Int) := by
    have : (x.num : Int) % (n : Int) = ((x.num % n : Nat) : Int) := by simp
    omega
  rw [e]
  unfold awayN
  simp

end Go.Proofs.YtdhgebdbiehchaaGreatDoor
namespace Go.Proofs.YtdhgebdbiehchaaGreatDoor
open Go.RowKit
set_option linter.unusedSimpArgs false
set_option linter.unusedVariables false

/-- The ten bytes of a slot. -/
def slotL (ix : List UInt8) (i : Nat) : List UInt8 := (ix.drop (20 + 10 * i)).take 10

/-- An answer: a value, how many slots, an error. -/
structure Ans where
  val : List UInt8
  num : Nat
  err : Int

/-- What the block of a slot leads to; nothing: on to the next. -/
def entStep (key : List UInt8) (k : Nat) (r : Option (List Ent × Nat)) (no : Nat) : Option Ans :=
  match r with
  | none => some ⟨[], 0, 3⟩
  | some (es, _) => match es[no]? with
    | none => some ⟨[], 0, 3⟩
    | some e => if e.put = false then some ⟨[], 0, 3⟩ else if e.key = key then some ⟨e.val, k + 1, 0⟩ else none
def slotStep (log key : List UInt8) (want : Nat) (blk : Int) (k : Nat) (s : List UInt8) : Option Ans :=
  if (s.getD 0 0).toNat = 0 then some ⟨[], k + 1, 2⟩
  else if (s.getD 0 0).toNat ≠ 1 ∨ highL ((s.drop 1).take 4) ≠ want then none
  else entStep key k (blockP log (highL ((s.drop 5).take 4)) blk) (s.getD 9 0).toNat

def lookGo (log ix key : List UInt8) (want n : Nat) (blk : Int) : Nat → Nat → Ans
  | 0, k => ⟨[], k, 2⟩
  | m + 1, k => match slotStep log key want blk k (slotL ix ((want + k) % n)) with
    | some a => a
    | none => lookGo log ix key want n blk m (k + 1)
theorem lookGo_some {log ix key : List UInt8} {want n m k : Nat} {blk : Int} {a : Ans} (h : slotStep log key want blk k (slotL ix ((want + k) % n)) = some a) : lookGo log ix key want n blk (m + 1) k = a := by
  rw [lookGo, h]
theorem lookGo_none {log ix key : List UInt8} {want n m k : Nat} {blk : Int} (h : slotStep log key want blk k (slotL ix ((want + k) % n)) = none) : lookGo log ix key want n blk (m + 1) k = lookGo log ix key want n blk m (k + 1) := by
  rw [lookGo, h]

def lookS (log ix key : List UInt8) : Ans :=
  if beginsE log ix = 0 then lookGo log ix key (numberI (hdSeed log) (hdBits log) key).toNat (ixN ix) (hdBlk log) (ixFar ix + 1) 0
  else ⟨[], 0, beginsE log ix⟩

theorem own_cells3 {w : World} {base e n : Nat} {v : Value} {xs : List Value} (h : w.ownsRow base e 3 v n xs) (hn : 0 < n) : ∃ g cap, v = .slice (some ⟨g, 0, none⟩) n cap ∧ base ≤ g ∧ g < w.heap.size ∧ ∀ j, j < n * 3 → w.cell? ⟨g, j, none⟩ = xs[j]? := by
  obtain ⟨h1, h2⟩ := h
  rcases h2 with ⟨_, h0⟩ | ⟨g, cap, cur, rfl, hb, hg, hc, hm, hsz, ht⟩
  · omega
  · refine ⟨g, cap, rfl, hb, (Array.getElem?_eq_some_iff.1 hg).1, fun j hj => World.ownsRow.cellAt (w := w) ⟨h1, .inr ⟨g, cap, cur, rfl, hb, hg, hc, hm, hsz, ht⟩⟩ j hj⟩
theorem cellsE_get {es : List Ent} {i : Nat} (h : i < es.length) : (cellsE es)[i * 3]? = some (.bool es[i].put) ∧ (cellsE es)[i * 3 + 1]? = some (.string (S es[i].key)) ∧ (cellsE es)[i * 3 + 2]? = some (.string (S es[i].val)) := by
  induction es generalizing i with
  | nil => simp at h
  | cons e es ih =>
    cases i with
    | zero => exact ⟨rfl, rfl, rfl⟩
    | succ i =>
      have := ih (i := i) (by simpa using h)
      have e1 : ∀ j, (cellsE (e :: es))[(i + 1) * 3 + j]? = (cellsE es)[i * 3 + j]? := fun j => by
        show ([.bool e.put, .string (S e.key), .string (S e.val)] ++ cellsE es)[(i + 1) * 3 + j]? = _
        rw [List.getElem?_append_right (by simp; omega)]
        congr 1
        simp; omega
      exact ⟨(e1 0).trans this.1, (e1 1).trans this.2.1, (e1 2).trans this.2.2⟩
theorem numberI_range (seed bits : Int) (key : List UInt8) (h0 : 0 ≤ bits) (h1 : bits ≤ 32) : 0 ≤ numberI seed bits key ∧ numberI seed bits key < 4294967296 := by
  unfold numberI
  have hp : (1 : Int) ≤ 2 ^ bits.toNat ∧ (2 : Int) ^ bits.toNat ≤ 4294967296 := by
    have h1 : (1 : Nat) ≤ 2 ^ bits.toNat := Nat.one_le_two_pow
    have h2 : (2 : Nat) ^ bits.toNat ≤ 2 ^ 32 := Nat.pow_le_pow_right (by omega) (by omega)
    have h3 : ((2 ^ bits.toNat : Nat) : Int) = 2 ^ bits.toNat := by simp
    omega
  have a := Int.emod_nonneg (fnv F0 (lowL seed.toNat 4 ++ key)) (show (2 : Int) ^ bits.toNat ≠ 0 by omega)
  have b := Int.emod_lt_of_pos (fnv F0 (lowL seed.toNat 4 ++ key)) (show (0 : Int) < 2 ^ bits.toNat by omega)
  omega
end Go.Proofs.YtdhgebdbiehchaaGreatDoor
