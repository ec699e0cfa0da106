/- The contracts of plays, where no disk is made, and of Numbers. -/
import Derived.Test.YtdhgebdbiehchaaGreatDoorGiven
namespace Go.Proofs.YtdhgebdbiehchaaGreatDoor
open Go.RowKit
set_option linter.unusedSimpArgs false
set_option linter.unusedVariables false

/-- A script lies in memory: a slice, nil or not, whose elements are these steps. -/
def ScriptAt (w : World) (a : Option Addr) (L : List OpV) : Prop :=
  L = [] ∨ ∃ b off, a = some ⟨b, off, none⟩ ∧ b < w.heap.size ∧ ∀ (k : Nat) (h : k < L.length), OpAt w b (off + k * 10) L[k]

set_option maxRecDepth 100000 in
set_option maxHeartbeats 1600000 in
theorem plays_any (a : Option Addr) (L : List OpV) (cap : Nat) (hi : Int) (w : World) (h1 : 1 ≤ hi) (h4 : hi ≤ 4) (hA : Asks hi) (hS : ScriptAt w a L) (hL : ∀ o ∈ L, o.sized) (hn : L.length ≤ 140737488351232) :
    Calls Tryz.prog 12 #[.slice a L.length cap, .int .i64 1, .int .i64 hi] w fun e w' => e = .returned (.bool true) ∧ Below w.heap.size w w' := by
  go_enter Tryz.func12, Tryz.ntmps12
  go_wp2_with fail
  refine (given_any w.heap.size hi _ h1 h4 hA (by simp)).mono ?_
  rintro e w1 ⟨rfl, hb1⟩
  have hz1 : w.heap.size < w1.heap.size := by have := hb1.size; simp at this; omega
  have hb01 : Below w.heap.size w w1 := ((Below.refl _ _).alloc (Nat.le_refl _) _).trans (hb1.mono (by simp))
  have hW1 : WorldAt w1 w.heap.size := by
    refine ⟨hz1, ?_, ?_⟩
    · rw [hb1.cell (p := ⟨w.heap.size, 0, none⟩) (by simp)]; simp
    · rw [hb1.cell (p := ⟨w.heap.size, 1, none⟩) (by simp)]; simp
  clear hb1
  go_wp2
  go_loopw [9] (fun i wr => ∃ (k : Nat), k ≤ L.length ∧ i = .int .i64 k ∧ WorldAt wr w.heap.size ∧ Below w.heap.size w wr) (fun i _ => L.length - (intOf i).toNat)
  case atStart => exact ⟨0, by omega, rfl, hW1, hb01⟩
  case round =>
    obtain ⟨k, hk, rfl, hW, hb⟩ := hrel
    by_cases hlt : k < L.length
    · rcases hS with hS | ⟨b, off, rfl, hbw, hops⟩
      · subst hS; simp at hlt
      have hop := (hops k hlt).below hb hbw
      have hsz := hL L[k] (List.getElem_mem _)
      have hrd := hA L[k]
      have HW : Hid (WorldAt wr w.heap.size) := hW
      clear hops hW
      generalize L[k] = o at *
      obtain ⟨kind, at', x, y, s, t, u, c0, c1, c2⟩ := o
      obtain ⟨g0, g1, g2, g3, g4, g5, g6, g7, g8, g9⟩ := hop
      dsimp only at *
      by_cases hk1 : 1 ≤ kind ∧ kind ≤ hi
      · obtain ⟨hka, hkb⟩ := hk1
        have hrd' : Reads _ := hrd hka hkb hsz
        go_wp2_with fail
        refine (step_reads ⟨kind, at', x, y, s, t, u, c0, c1, c2⟩ _ _ hka (by dsimp only; omega) hrd').mono ?_
        rintro e w3 ⟨rfl, hb3⟩
        clear g0 g1 g2 g3 g4 g5 g6 g7 g8 g9
        go_wp2
        go_roundw
        case rel => exact ⟨k + 1, by omega, by go_num, HW.out.below hb3, hb.trans (hb3.mono hb.size)⟩
        case measure => simp [intOf]; omega
      · clear hrd
        rcases (show kind < 1 ∨ (1 ≤ kind ∧ hi < kind) from by omega) with hka | ⟨hka, hkb⟩
        all_goals
          clear hk1
          go_wp2
          go_roundw
          case rel => exact ⟨k + 1, by omega, by go_num, HW.out, hb⟩
          case measure => simp [intOf]; omega
    · have hW' := hW
      obtain ⟨hwz, hw0, hw1⟩ := hW'
      have HW : Hid (WorldAt wr w.heap.size) := hW
      clear hW hS
      go_wp2
      refine wp_loop_rounds 1 ?_
      rw [rounds_succ]
      go_wp2_with fail
      refine (looks_any _ _ HW.out).mono ?_
      rintro e w3 ⟨rfl, hb3⟩
      go_wp2
      go_ret
      exact ⟨rfl, hb.trans (hb3.mono hb.size)⟩

theorem asks_one : Asks 1 := fun o h1 h2 _ w => reads_number o w (by omega)

set_option maxHeartbeats 400000 in
theorem numbers_any (a : Option Addr) (L : List OpV) (cap : Nat) (w : World) (hS : ScriptAt w a L) (hL : ∀ o ∈ L, o.sized) (hn : L.length ≤ 140737488351232) :
    Calls Tryz.prog 3 #[.slice a L.length cap] w fun e w' => e = .returned (.bool true) ∧ Below w.heap.size w w' := by
  go_enter Tryz.func3, Tryz.ntmps3
  go_wp2_with fail
  refine (plays_any a L cap 1 _ (by omega) (by omega) asks_one hS hL hn).mono ?_
  rintro e w1 ⟨rfl, hb1⟩
  go_wp2
  go_ret
  exact ⟨rfl, hb1⟩
end Go.Proofs.YtdhgebdbiehchaaGreatDoor
