/- The contract of given: what is asked ahead of each script is answered alike. -/
import Derived.Test.YtdhgebdbiehchaaGreatDoorLaw
namespace Go.Proofs.YtdhgebdbiehchaaGreatDoor
open Go.RowKit
set_option linter.unusedSimpArgs false
set_option linter.unusedVariables false

def OpV.sized (o : OpV) : Prop := o.s.size ≤ 140737488351232 ∧ o.t.size ≤ 140737488351232 ∧ o.u.size ≤ 140737488351232

/-- The ten cells of a step, from an address on. -/
def OpAt (w : World) (b off : Nat) (o : OpV) : Prop :=
  w.cell? ⟨b, off, none⟩ = some (.int .i64 o.kind) ∧ w.cell? ⟨b, off + 1, none⟩ = some (.int .i64 o.at') ∧ w.cell? ⟨b, off + 2, none⟩ = some (.int .i64 o.x) ∧ w.cell? ⟨b, off + 3, none⟩ = some (.int .i64 o.y) ∧
  w.cell? ⟨b, off + 4, none⟩ = some (.string o.s) ∧ w.cell? ⟨b, off + 5, none⟩ = some (.string o.t) ∧ w.cell? ⟨b, off + 6, none⟩ = some (.string o.u) ∧
  w.cell? ⟨b, off + 7, none⟩ = some (.int .i64 o.c0) ∧ w.cell? ⟨b, off + 8, none⟩ = some (.int .i64 o.c1) ∧ w.cell? ⟨b, off + 9, none⟩ = some (.int .i64 o.c2)
theorem OpAt.below {w w' : World} {b off : Nat} {o : OpV} (h : OpAt w b off o) {n : Nat} (hb : Below n w w') (hl : b < n) : OpAt w' b off o := by
  obtain ⟨h0, h1, h2, h3, h4, h5, h6, h7, h8, h9⟩ := h
  have f : ∀ i v, w.cell? ⟨b, i, none⟩ = some v → w'.cell? ⟨b, i, none⟩ = some v := fun i v hv => (hb.cell (p := ⟨b, i, none⟩) hl).trans hv
  exact ⟨f _ _ h0, f _ _ h1, f _ _ h2, f _ _ h3, f _ _ h4, f _ _ h5, f _ _ h6, f _ _ h7, f _ _ h8, f _ _ h9⟩

/-- The ten steps that are given. -/
def givenOps (s : ByteArray) : List OpV :=
  [⟨1, 0, 0, 32, ⟨#[97]⟩, ⟨#[]⟩, ⟨#[]⟩, 0, 0, 0⟩, ⟨2, 0, 0, 0, s, ⟨#[]⟩, ⟨#[]⟩, 0, 0, 0⟩, ⟨4, 0, 0, 0, s, ⟨#[]⟩, ⟨#[97]⟩, 0, 0, 0⟩, ⟨5, 0, 5000, 0, ⟨#[]⟩, ⟨#[]⟩, ⟨#[]⟩, 0, 0, 0⟩, ⟨6, 0, 0, 0, ⟨#[]⟩, ⟨#[]⟩, ⟨#[]⟩, 40, 7, 2⟩,
   ⟨7, 0, 0, 0, ⟨#[97]⟩, ⟨#[120]⟩, ⟨#[]⟩, 0, 0, 0⟩, ⟨9, 0, 0, 0, ⟨#[]⟩, ⟨#[]⟩, ⟨#[]⟩, 0, 0, 0⟩, ⟨11, 0, 0, 0, ⟨#[]⟩, ⟨#[]⟩, ⟨#[]⟩, 0, 0, 0⟩, ⟨12, 0, 0, 0, ⟨#[97]⟩, ⟨#[]⟩, ⟨#[]⟩, 0, 0, 0⟩, ⟨13, 0, 0, 0, ⟨#[]⟩, ⟨#[]⟩, ⟨#[]⟩, 0, 0, 0⟩]
def givenCells (s : ByteArray) : Array Value := ((givenOps s).flatMap OpV.cells).toArray

theorem given_lit (w : World) (s : ByteArray) (t : TypeId) (j : Nat) (hj : j < 10) : OpAt (w.alloc (.cells (givenCells s) t)) w.heap.size (j * 10) ((givenOps s)[j]'hj) := by
  have f : ∀ i, (w.alloc (.cells (givenCells s) t)).cell? ⟨w.heap.size, i, none⟩ = (givenCells s)[i]? := fun i => World.cell?_alloc_new w _ t i
  unfold OpAt
  rw [f, f, f, f, f, f, f, f, f, f]
  match j, hj with
  | 0, _ => exact ⟨rfl, rfl, rfl, rfl, rfl, rfl, rfl, rfl, rfl, rfl⟩
  | 1, _ => exact ⟨rfl, rfl, rfl, rfl, rfl, rfl, rfl, rfl, rfl, rfl⟩
  | 2, _ => exact ⟨rfl, rfl, rfl, rfl, rfl, rfl, rfl, rfl, rfl, rfl⟩
  | 3, _ => exact ⟨rfl, rfl, rfl, rfl, rfl, rfl, rfl, rfl, rfl, rfl⟩
  | 4, _ => exact ⟨rfl, rfl, rfl, rfl, rfl, rfl, rfl, rfl, rfl, rfl⟩
  | 5, _ => exact ⟨rfl, rfl, rfl, rfl, rfl, rfl, rfl, rfl, rfl, rfl⟩
  | 6, _ => exact ⟨rfl, rfl, rfl, rfl, rfl, rfl, rfl, rfl, rfl, rfl⟩
  | 7, _ => exact ⟨rfl, rfl, rfl, rfl, rfl, rfl, rfl, rfl, rfl, rfl⟩
  | 8, _ => exact ⟨rfl, rfl, rfl, rfl, rfl, rfl, rfl, rfl, rfl, rfl⟩
  | 9, _ => exact ⟨rfl, rfl, rfl, rfl, rfl, rfl, rfl, rfl, rfl, rfl⟩
theorem given_sized {s : ByteArray} (hs : s.size ≤ 1000) : ∀ o ∈ givenOps s, o.sized := by
  have z0 : (⟨#[]⟩ : ByteArray).size = 0 := rfl
  have z1 : (⟨#[97]⟩ : ByteArray).size = 1 := rfl
  have z2 : (⟨#[120]⟩ : ByteArray).size = 1 := rfl
  intro o ho
  simp only [givenOps, List.mem_cons, List.not_mem_nil, or_false] at ho
  rcases ho with rfl | rfl | rfl | rfl | rfl | rfl | rfl | rfl | rfl | rfl
  all_goals
    unfold OpV.sized
    dsimp only
    simp only [z0, z1, z2]
    omega

/-- What is asked: all steps of the kinds up to hi are answered alike. -/
def Asks (hi : Int) : Prop := ∀ o : OpV, 1 ≤ o.kind → o.kind ≤ hi → o.sized → Reads o

set_option maxRecDepth 100000 in
set_option maxHeartbeats 1600000 in
theorem given_any (b : Nat) (hi : Int) (w : World) (h1 : 1 ≤ hi) (h4 : hi ≤ 4) (hA : Asks hi) (hw : b < w.heap.size) :
    Calls Tryz.prog 32 #[.pointer (some ⟨b, 0, none⟩), .int .i64 1, .int .i64 hi] w fun e w' => e = .returned (.bool true) ∧ Below w.heap.size w w' := by
  go_enter Tryz.func32, Tryz.ntmps32
  go_wp2_with fail
  refine (head_any 100 7 32 _ (by omega) (by omega) (by omega) (by omega) (by omega) (by omega)).mono ?_
  rintro e w1 ⟨rfl, hb1⟩
  obtain ⟨hd, hhd⟩ : ∃ t, t = S (sealL ([76, 71] ++ lowL (100 : Int).toNat 2 ++ lowL (7 : Int).toNat 4 ++ lowL (32 : Int).toNat 2)) := ⟨_, rfl⟩
  have z1 : hd.size ≤ 100 := by rw [hhd, S_size, sealL_length]; simp [lowL_length]
  rw [← hhd]
  clear hhd
  go_wp2_with fail
  refine (block_any w1.heap.size 1 [(true, ⟨#[97]⟩, ⟨#[120]⟩)] _ (by simp) ?_ (by simp) ?_).mono ?_
  · intro i hi
    match i, hi with
    | 0, _ => simp
  · intro e he
    simp at he
    subst he
    exact ⟨by decide, by decide⟩
  rintro e w2 ⟨rfl, hb2⟩
  obtain ⟨bl, hbl⟩ : ∃ t, t = S (blockL [(true, ⟨#[97]⟩, ⟨#[120]⟩)]) := ⟨_, rfl⟩
  have z2 : bl.size ≤ 100 := by
    rw [hbl, S_size]; decide +kernel
  rw [← hbl]
  clear hbl
  have hb12 : Below w.heap.size w w2 := hb1.trans ((((Below.refl w1.heap.size w1).alloc (Nat.le_refl _) _).trans (hb2.mono (by simp))).mono hb1.size)
  clear hb1 hb2
  have q1 : ¬ 9223372036854775807 < hd.size + bl.size := by omega
  have hbz := hb12.size
  go_wp2
  go_loopw [9] (fun i wr => ∃ (k : Nat), k ≤ 10 ∧ i = .int .i64 k ∧ (∀ j (hj : j < 10), OpAt wr w2.heap.size (j * 10) ((givenOps (hd ++ bl))[j]'hj)) ∧ w2.heap.size < wr.heap.size ∧ Below w.heap.size w wr) (fun i _ => 10 - (intOf i).toNat)
  case atStart => exact ⟨0, by omega, rfl, given_lit w2 (hd ++ bl) _, by simp, hb12.alloc hbz _⟩
  case round =>
    obtain ⟨k, hk, rfl, hops, hz2, hb⟩ := hrel
    by_cases hlt : k < 10
    · have hop := hops k hlt
      have hsz : ((givenOps (hd ++ bl))[k]'hlt).sized := given_sized (by simp; omega) _ (List.getElem_mem _)
      have hrd := hA ((givenOps (hd ++ bl))[k]'hlt)
      have HO : Hid (∀ j (hj : j < 10), OpAt wr w2.heap.size (j * 10) ((givenOps (hd ++ bl))[j]'hj)) := hops
      clear hops
      generalize (givenOps (hd ++ bl))[k]'hlt = o at *
      obtain ⟨kind, at', x, y, s, t, u, c0, c1, c2⟩ := o
      obtain ⟨h0, h1', h2, h3, h4', h5, h6, h7, h8, h9⟩ := hop
      dsimp only at *
      by_cases hk1 : 1 ≤ kind ∧ kind ≤ hi
      · obtain ⟨hka, hkb⟩ := hk1
        have hrd' : Reads _ := hrd hka hkb hsz
        go_wp2_with fail
        refine (step_reads ⟨kind, at', x, y, s, t, u, c0, c1, c2⟩ b _ hka (by dsimp only; omega) hrd').mono ?_
        rintro e w3 ⟨rfl, hb3⟩
        clear h0 h1' h2 h3 h4' h5 h6 h7 h8 h9
        go_wp2
        go_roundw
        case rel => exact ⟨k + 1, by omega, by go_num, fun j hj => (HO.out j hj).below hb3 hz2, Nat.lt_of_lt_of_le hz2 hb3.size, hb.trans (hb3.mono hb.size)⟩
        case measure => simp [intOf]; omega
      · clear hrd
        rcases (show kind < 1 ∨ (1 ≤ kind ∧ hi < kind) from by omega) with hka | ⟨hka, hkb⟩
        all_goals
          clear hk1
          go_wp2
          go_roundw
          case rel => exact ⟨k + 1, by omega, by go_num, HO.out, hz2, hb⟩
          case measure => simp [intOf]; omega
    · go_wp2
      go_ret
      exact ⟨rfl, hb⟩
end Go.Proofs.YtdhgebdbiehchaaGreatDoor
