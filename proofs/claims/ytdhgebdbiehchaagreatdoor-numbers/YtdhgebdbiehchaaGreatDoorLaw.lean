/- The contracts of the statement's own functions where no disk is made: looks, reads of a Number, step, given, plays. -/
import Derived.Test.YtdhgebdbiehchaaGreatDoorNum
import Derived.Test.YtdhgebdbiehchaaGreatDoorBlk
namespace Go.Proofs.YtdhgebdbiehchaaGreatDoor
open Go.RowKit
set_option linter.unusedSimpArgs false
set_option linter.unusedVariables false

/-- A step of a script. -/
structure OpV where
  kind : Int
  at' : Int
  x : Int
  y : Int
  s : ByteArray
  t : ByteArray
  u : ByteArray
  c0 : Int
  c1 : Int
  c2 : Int
def OpV.cells (o : OpV) : List Value := [.int .i64 o.kind, .int .i64 o.at', .int .i64 o.x, .int .i64 o.y, .string o.s, .string o.t, .string o.u, .int .i64 o.c0, .int .i64 o.c1, .int .i64 o.c2]
def OpV.val (o : OpV) : Value := .agg #[.int .i64 o.kind, .int .i64 o.at', .int .i64 o.x, .int .i64 o.y, .string o.s, .string o.t, .string o.u, .int .i64 o.c0, .int .i64 o.c1, .int .i64 o.c2]

/-- The statement's World, with no disk and no list. -/
def zeroW : List Value := [.slice none 0 0, .slice none 0 0, .slice none 0 0, .int .i64 0]
def WorldAt (w : World) (b : Nat) : Prop := b < w.heap.size ∧ w.cell? ⟨b, 0, none⟩ = some (.slice none 0 0) ∧ w.cell? ⟨b, 1, none⟩ = some (.slice none 0 0)

theorem WorldAt.below {w w' : World} {b : Nat} (h : WorldAt w b) (hb : Below w.heap.size w w') : WorldAt w' b :=
  ⟨Nat.lt_of_lt_of_le h.1 hb.size, (hb.cell (p := ⟨b, 0, none⟩) h.1).trans h.2.1, (hb.cell (p := ⟨b, 1, none⟩) h.1).trans h.2.2⟩

set_option maxHeartbeats 800000 in
theorem looks_any (b : Nat) (w : World) (h : WorldAt w b) :
    Calls Tryz.prog 34 #[.pointer (some ⟨b, 0, none⟩)] w fun e w' => e = .returned (.bool true) ∧ Below w.heap.size w w' := by
  obtain ⟨h0, h1, h2⟩ := h
  go_enter Tryz.func34, Tryz.ntmps34
  go_wp2
  refine wp_loop_rounds 1 ?_
  rw [rounds_succ]
  go_wp2
  go_ret
  exact ⟨rfl, Below.refl _ _⟩

set_option maxHeartbeats 1600000 in
theorem reads_number (o : OpV) (w : World) (hk : o.kind = 1) :
    Calls Tryz.prog 63 #[o.val] w fun e w' => e = .returned (.bool true) ∧ Below w.heap.size w w' := by
  obtain ⟨kind, at', x, y, s, t, u, c0, c1, c2⟩ := o
  dsimp only at hk
  subst hk
  unfold OpV.val
  dsimp only
  go_enter Tryz.func63, Tryz.ntmps63
  go_wp2_with fail
  refine (number_any x y s _).mono ?_
  rintro e w1 ⟨rfl, hb1⟩
  have hz1 : w.heap.size < w1.heap.size := by have := hb1.size; simp at this; omega
  have d2 : w1.cell? ⟨w.heap.size, 2, none⟩ = some (.int .i64 x) := by rw [hb1.cell (p := ⟨w.heap.size, 2, none⟩) (by simp)]; simp
  have d3 : w1.cell? ⟨w.heap.size, 3, none⟩ = some (.int .i64 y) := by rw [hb1.cell (p := ⟨w.heap.size, 3, none⟩) (by simp)]; simp
  have d4 : w1.cell? ⟨w.heap.size, 4, none⟩ = some (.string s) := by rw [hb1.cell (p := ⟨w.heap.size, 4, none⟩) (by simp)]; simp
  go_wp2_with fail
  refine (refNumber_any x y s _).mono ?_
  rintro e w2 ⟨rfl, hb2⟩
  generalize numR x y s = n
  generalize numE x y s = f
  go_wp2_with (first | (go_at_call 114; refine (num_any _ _).mono ?_; rintro e w' ⟨rfl, rfl⟩))
  go_ret
  exact ⟨by simp, (((Below.refl _ _).alloc (Nat.le_refl _) _).trans (hb1.mono (by simp))).trans (hb2.mono (by omega))⟩

/-- What is known of every step: its kind is one of those that are asked, and what it asks is answered alike. -/
def Reads (o : OpV) : Prop := ∀ w : World, Calls Tryz.prog 63 #[o.val] w fun e w' => e = .returned (.bool true) ∧ Below w.heap.size w w'

theorem Reads.val {o : OpV} (h : Reads o) : Hid (∀ w : World, Calls Tryz.prog 63 #[.agg #[.int .i64 o.kind, .int .i64 o.at', .int .i64 o.x, .int .i64 o.y, .string o.s, .string o.t, .string o.u, .int .i64 o.c0, .int .i64 o.c1, .int .i64 o.c2]] w fun e w' => e = .returned (.bool true) ∧ Below w.heap.size w w') := h

set_option maxHeartbeats 1600000 in
theorem step_reads (o : OpV) (b : Nat) (w : World) (h1 : 1 ≤ o.kind) (h4 : o.kind ≤ 4) (hr : Reads o) :
    Calls Tryz.prog 33 #[.pointer (some ⟨b, 0, none⟩), o.val] w fun e w' => e = .returned (.bool true) ∧ Below w.heap.size w w' := by
  obtain ⟨kind, at', x, y, s, t, u, c0, c1, c2⟩ := o
  dsimp only at h1 h4
  have HR := Reads.val hr
  clear hr
  unfold OpV.val
  dsimp only
  go_enter Tryz.func33, Tryz.ntmps33
  go_wp2_with fail
  refine (HR.out _).mono ?_
  rintro e w1 ⟨rfl, hb1⟩
  go_wp2
  go_ret
  exact ⟨rfl, ((Below.refl _ _).alloc (Nat.le_refl _) _).trans (hb1.mono (by simp))⟩
end Go.Proofs.YtdhgebdbiehchaaGreatDoor
