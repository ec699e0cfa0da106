/- On the way: Env. -/
import Derived.Test.YtdhgebdbiehchaaGreatDoorB11
import Derived.Test.YtdhgebdbiehchaaGreatDoorB08
namespace Go.Proofs.YtdhgebdbiehchaaGreatDoor
open Go.RowKit
set_option linter.unusedSimpArgs false
set_option linter.unusedVariables false
set_option maxRecDepth 100000
set_option maxHeartbeats 1600000
structure Sent where
 room : Addr
 gone : Addr
 down : Addr
 up : Addr
 power : Addr
def Sent.all (E : Sent) : List Addr := [E.room,E.gone,E.down,E.up,E.power]
structure Env (W : World) (E : Sent) : Prop where
 halves : HalvesAt W
 et : W.cell? ⟨4,0,none⟩ = some (.iface 280 (.agg #[.pointer (some ⟨7,80,none⟩)]))
 room : W.cell? ⟨0,0,none⟩ = some (.iface 352 (.pointer (some E.room)))
 gone : W.cell? ⟨5,0,none⟩ = some (.iface 352 (.pointer (some E.gone)))
 down : W.cell? ⟨1,0,none⟩ = some (.iface 352 (.pointer (some E.down)))
 up : W.cell? ⟨3,0,none⟩ = some (.iface 352 (.pointer (some E.up)))
 power : W.cell? ⟨2,0,none⟩ = some (.iface 352 (.pointer (some E.power)))
 cells : ∀ a ∈ E.all,∃ c t,W.heap[a.block]? = some (.cells c t (0,0))
 nodup : E.all.Nodup
theorem cell_lt {W : World} {p : Addr} {v : Value} (h : W.cell? p = some v) : p.block < W.heap.size := by
 rcases Nat.lt_or_ge p.block W.heap.size with h' | h'
 ·exact h'
 ·simp [World.cell?,Array.getElem?_eq_none h'] at h
theorem Env.below {W w : World} {E : Sent} (h : Env W E) (hB : Below W.heap.size W w) : Env w E := by
 have f : ∀ {p : Addr} {v : Value},W.cell? p = some v -> w.cell? p = some v := fun hp => (hB.cell (cell_lt hp)).trans hp
 exact ⟨h.halves.below hB h.halves.1,f h.et,f h.room,f h.gone,f h.down,f h.up,f h.power,fun a ha => by
  obtain ⟨c,t,hc⟩ := h.cells a ha
  exact ⟨c,t,(hB.block a.block (Array.getElem?_eq_some_iff.1 hc).1).trans hc⟩,h.nodup⟩
theorem is_fault (pb : Nat) (a b : Addr) (w : World) (h1 : w.cell? ⟨pb,2,none⟩ = some (.iface 352 (.pointer (some a)))) (ha : ∃ c t,w.heap[a.block]? = some (.cells c t (0,0))) (hb : ∃ c t,w.heap[b.block]? = some (.cells c t (0,0))) :
  Calls Tryz.prog 75 #[.iface 128 (.pointer (some ⟨pb,0,none⟩)),.iface 352 (.pointer (some b))] w fun e w' => e = .returned (.bool (decide (a = b))) /\ w' = w := by
 by_cases h : a = b
 ·subst h
  rw [decide_eq_true rfl]
  exact is_wrap_same pb a w h1
 ·rw [decide_eq_false h]
  obtain ⟨ca,ta,ha⟩ := ha
  obtain ⟨cb,tb,hb⟩ := hb
  exact is_wrap_other pb b a ca cb ta tb w h1 h ha hb
def errNo (E : Sent) (a : Addr) : Int := if a = E.room then 6 else if a = E.down then 7 else if a = E.power then 8 else if a = E.up then 1 else 2
theorem answer_nil (w : World) : Calls Tryz.prog 41 #[.nilIface] w fun e w' => e = .returned (.int .i64 0) /\ Below w.heap.size w w' := by
 go_enter Tryz.func41,Tryz.ntmps41
 go_wp2_with fail
 refine (as_nil _ _).mono ?_
 rintro e w1 ⟨rfl,rfl⟩
 go_wp2
 go_ret
 exact ⟨rfl,(Below.refl _ _).alloc (Nat.le_refl _) _⟩
theorem answer_fault (E : Sent) (b : Nat) (a : Addr) (w : World) (hE : Env w E) (hb : w.cell? ⟨b,2,none⟩ = some (.iface 352 (.pointer (some a)))) (ha : a ∈ E.all) :
  Calls Tryz.prog 41 #[.iface 128 (.pointer (some ⟨b,0,none⟩))] w fun e w' => e = .returned (.int .i64 (errNo E a)) /\ Below w.heap.size w w' := by
 have hbl := cell_lt hb
 have HE : Hid (∀ wx,Below w.heap.size w wx -> Env wx E) := fun wx hx => hE.below hx
 have HA : Hid _ := as_hit ⟨b,0,none⟩ ⟨w.heap.size,0,none⟩ (.pointer none) (w.alloc (.cells #[.pointer none] 128)) ((hE.below ((Below.refl _ _).alloc (Nat.le_refl _) _)).et) (by simp) (by simp)
 have HIS : Hid (∀ (c : Addr) (wx : World),c ∈ E.all -> Below w.heap.size w wx -> Calls Tryz.prog 75 #[.iface 128 (.pointer (some ⟨b,0,none⟩)),.iface 352 (.pointer (some c))] wx fun e w' => e = .returned (.bool (decide (a = c))) /\ w' = wx) := fun c wx hc hx =>
  is_fault b a c wx ((hx.cell (p := ⟨b,2,none⟩) hbl).trans hb) ((hE.below hx).cells a ha) ((hE.below hx).cells c hc)
 have HN : Hid (errNo E a = if a = E.room then 6 else if a = E.down then 7 else if a = E.power then 8 else if a = E.up then 1 else 2) := rfl
 have m1 : Hid (E.room ∈ E.all) := by show _ ∈ _; simp [Sent.all]
 have m2 : Hid (E.down ∈ E.all) := by show _ ∈ _; simp [Sent.all]
 have m3 : Hid (E.power ∈ E.all) := by show _ ∈ _; simp [Sent.all]
 have m4 : Hid (E.up ∈ E.all) := by show _ ∈ _; simp [Sent.all]
 clear hE hb ha
 go_enter Tryz.func41,Tryz.ntmps41
 go_wp2_with fail
 refine Calls.mono HA.out ?_
 rintro e w1 ⟨rfl,hw1⟩
 have hB1 : Below w.heap.size w w1 := by
  rw [hw1]
  exact ((((((Below.refl _ _).alloc (Nat.le_refl _) _).alloc (by simp) _).alloc (by simp; omega) _).alloc (by simp; omega) _).alloc (by simp; omega) _).setCell (Nat.le_refl _) _
 have hc1 : w1.cell? ⟨w.heap.size,0,none⟩ = some (.pointer (some ⟨b,0,none⟩)) := by
  rw [hw1,World.cell?_setCell_same _ _ _ (by rw [World.cell?_alloc_lt _ _ ⟨w.heap.size,0,none⟩ (by simp; omega),World.cell?_alloc_lt _ _ ⟨w.heap.size,0,none⟩ (by simp; omega),World.cell?_alloc_lt _ _ ⟨w.heap.size,0,none⟩ (by simp; omega),World.cell?_alloc_lt _ _ ⟨w.heap.size,0,none⟩ (by simp)]; exact World.cell?_alloc_at _ _ _ _ rfl)]
 have hE1 := HE.out w1 hB1
 have g0 := hE1.room
 have g1 := hE1.down
 have g2 := hE1.power
 have g3 := hE1.up
 have H1 : Hid _ := HIS.out E.room w1 m1.out hB1
 have H2 : Hid _ := HIS.out E.down w1 m2.out hB1
 have H3 : Hid _ := HIS.out E.power w1 m3.out hB1
 have H4 : Hid _ := HIS.out E.up w1 m4.out hB1
 clear hw1 HA hE1 HE HIS m1 m2 m3 m4
 by_cases q1 : a = E.room
 ·rw [if_pos q1] at HN
  rw [decide_eq_true q1] at H1
  clear q1 H2 H3 H4
  go_wp2_with fail
  refine Calls.mono H1.out ?_
  rintro e w2 ⟨rfl,rfl⟩
  go_wp2
  go_ret
  exact ⟨ret_int HN.out.symm,hB1⟩
 rw [if_neg q1] at HN
 rw [decide_eq_false q1] at H1
 clear q1
 go_wp2_with fail
 refine Calls.mono H1.out ?_
 rintro e w2 ⟨rfl,rfl⟩
 clear H1
 by_cases q2 : a = E.down
 ·rw [if_pos q2] at HN
  rw [decide_eq_true q2] at H2
  clear q2 H3 H4
  go_wp2_with fail
  refine Calls.mono H2.out ?_
  rintro e w3 ⟨rfl,rfl⟩
  go_wp2
  go_ret
  exact ⟨ret_int HN.out.symm,hB1⟩
 rw [if_neg q2] at HN
 rw [decide_eq_false q2] at H2
 clear q2
 go_wp2_with fail
 refine Calls.mono H2.out ?_
 rintro e w3 ⟨rfl,rfl⟩
 clear H2
 by_cases q3 : a = E.power
 ·rw [if_pos q3] at HN
  rw [decide_eq_true q3] at H3
  clear q3 H4
  go_wp2_with fail
  refine Calls.mono H3.out ?_
  rintro e w4 ⟨rfl,rfl⟩
  go_wp2
  go_ret
  exact ⟨ret_int HN.out.symm,hB1⟩
 rw [if_neg q3] at HN
 rw [decide_eq_false q3] at H3
 clear q3
 go_wp2_with fail
 refine Calls.mono H3.out ?_
 rintro e w4 ⟨rfl,rfl⟩
 clear H3
 by_cases q4 : a = E.up
 ·rw [if_pos q4] at HN
  rw [decide_eq_true q4] at H4
  clear q4
  go_wp2_with fail
  refine Calls.mono H4.out ?_
  rintro e w5 ⟨rfl,rfl⟩
  go_wp2
  go_ret
  exact ⟨ret_int HN.out.symm,hB1⟩
 rw [if_neg q4] at HN
 rw [decide_eq_false q4] at H4
 clear q4
 go_wp2_with fail
 refine Calls.mono H4.out ?_
 rintro e w5 ⟨rfl,rfl⟩
 clear H4
 go_wp2
 go_ret
 exact ⟨ret_int HN.out.symm,hB1⟩
end Go.Proofs.YtdhgebdbiehchaaGreatDoor
