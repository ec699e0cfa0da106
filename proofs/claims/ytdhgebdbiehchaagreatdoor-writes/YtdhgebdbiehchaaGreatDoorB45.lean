/- The statement's asked: File; its does, where asked is called. The statement's steps that write: each is answered alike. -/
import Derived.Test.YtdhgebdbiehchaaGreatDoorB43
import Derived.Test.YtdhgebdbiehchaaGreatDoorB44
namespace Go.Proofs.YtdhgebdbiehchaaGreatDoor
open Go.RowKit Go.Maps
set_option linter.unusedSimpArgs false
set_option linter.unusedVariables false

set_option maxRecDepth 100000 in
set_option maxHeartbeats 3200000 in
theorem asked_file (o : OpV) (hk : o.kind = 10) (bw pb : Nat) (x y : Nat) (r : List UInt8 × Int) (w : World) (c0 : ∀ w1 : World, Below w.heap.size w w1 → w1.cell? ⟨pb, 0, none⟩ = some (.pointer (some ⟨x, 0, none⟩)) ∧ w1.cell? ⟨pb, 1, none⟩ = some (.pointer (some ⟨y, 0, none⟩)))
    (HX : ∀ w1 : World, Below w.heap.size w w1 → Calls Tryz.prog 19 #[.pointer (some ⟨x, 0, none⟩), .string o.s] w1 fun e w' => e = .returned (.tuple #[.string (S r.1), .int .i64 r.2]) ∧ Below w1.heap.size w1 w')
    (HY : ∀ w1 : World, Below w.heap.size w w1 → Calls Tryz.prog 178 #[.pointer (some ⟨y, 0, none⟩), .string o.s] w1 fun e w' => e = .returned (.tuple #[.string (S r.1), .int .i64 r.2]) ∧ Below w1.heap.size w1 w') :
    Calls Tryz.prog 125 #[.pointer (some ⟨bw, 0, none⟩), .pointer (some ⟨pb, 0, none⟩), o.val] w fun e w' => e = .returned (.bool true) ∧ Below w.heap.size w w' := by
  obtain ⟨kind, at', xx, yy, s, t, u, c0', c1, c2⟩ := o
  dsimp only at hk HX HY
  subst hk
  have hB : Below w.heap.size w (w.alloc (.cells (opC ⟨10, at', xx, yy, s, t, u, c0', c1, c2⟩) 68)) := (Below.refl _ _).alloc (Nat.le_refl _) _
  have hzW : w.heap.size < (w.alloc (.cells (opC ⟨10, at', xx, yy, s, t, u, c0', c1, c2⟩) 68)).heap.size := by simp
  have HBB : Hid (∀ w1 : World, Below (w.alloc (.cells (opC ⟨10, at', xx, yy, s, t, u, c0', c1, c2⟩) 68)).heap.size (w.alloc (.cells (opC ⟨10, at', xx, yy, s, t, u, c0', c1, c2⟩) 68)) w1 → Below w.heap.size w w1) := fun w1 hb => hB.trans (hb.mono (by omega))
  have HC : Hid (∀ w1 : World, Below (w.alloc (.cells (opC ⟨10, at', xx, yy, s, t, u, c0', c1, c2⟩) 68)).heap.size (w.alloc (.cells (opC ⟨10, at', xx, yy, s, t, u, c0', c1, c2⟩) 68)) w1 → (w1.cell? ⟨pb, 0, none⟩ = some (.pointer (some ⟨x, 0, none⟩)) ∧ w1.cell? ⟨pb, 1, none⟩ = some (.pointer (some ⟨y, 0, none⟩))) ∧ w1.cell? ⟨w.heap.size, 4, none⟩ = some (.string s)) := fun w1 hb => ⟨c0 w1 (HBB.out w1 hb), ((bx_new w (opC ⟨10, at', xx, yy, s, t, u, c0', c1, c2⟩) 68 rfl).below hb hzW).cell (j := 4) rfl⟩
  have HXh : Hid (∀ w1 : World, Below w.heap.size w w1 → _) := HX
  have HYh : Hid (∀ w1 : World, Below w.heap.size w w1 → _) := HY
  have HS0 := HC.out _ (Below.refl _ _)
  have HS0h : Hid ((_ ∧ _) ∧ _) := HS0
  clear hB c0 HX HY hzW HS0
  obtain ⟨rs, rn⟩ := r
  dsimp only at *
  unfold OpV.val
  dsimp only
  go_enter Tryz.func125, Tryz.ntmps125
  go_wp2_with fail
  go_region_held3 (fun w' => (w'.cell? ⟨pb, 0, none⟩ = some (.pointer (some ⟨x, 0, none⟩)) ∧ w'.cell? ⟨pb, 1, none⟩ = some (.pointer (some ⟨y, 0, none⟩))) ∧ w'.cell? ⟨w.heap.size, 4, none⟩ = some (.string s)) (first | (exact HS0h.out) | (assumption)) (first | (go_at_call 19; refine (HXh.out _ ?_).mono ?_; exact ((Below.refl _ _).alloc (Nat.le_refl _) _).drew; rintro e w1 ⟨rfl, hb1⟩; have hb1' : Below (w.alloc (.cells (opC ⟨10, at', xx, yy, s, t, u, c0', c1, c2⟩) 68)).heap.size (w.alloc (.cells (opC ⟨10, at', xx, yy, s, t, u, c0', c1, c2⟩) 68)) w1 := ⟨hb1.os, hb1.tape, hb1.output, hb1.size, hb1.block⟩; have hS1 := HC.out w1 hb1'; have HB1 : Hid (Below w.heap.size w w1) := HBB.out w1 hb1'; have HBA : Hid (∀ w2 : World, Below w1.heap.size w1 w2 → Below (w.alloc (.cells (opC ⟨10, at', xx, yy, s, t, u, c0', c1, c2⟩) 68)).heap.size (w.alloc (.cells (opC ⟨10, at', xx, yy, s, t, u, c0', c1, c2⟩) 68)) w2) := fun w2 hb2 => hb1'.trans (hb2.mono hb1'.size); have HS1 : Hid ((_ ∧ _) ∧ _) := hS1; clear hb1 hb1'))
  all_goals
    clear hS1
    go_wp2_with fail
    go_region_held3 (fun w' => (w'.cell? ⟨pb, 0, none⟩ = some (.pointer (some ⟨x, 0, none⟩)) ∧ w'.cell? ⟨pb, 1, none⟩ = some (.pointer (some ⟨y, 0, none⟩))) ∧ w'.cell? ⟨w.heap.size, 4, none⟩ = some (.string s)) (first | (exact HS1.out) | (assumption)) (first | (go_at_call 178; refine (HYh.out _ ?_).mono ?_; exact HB1.out.drew; rintro e w2 ⟨rfl, hb2⟩; have hb2' : Below w1.heap.size w1 w2 := ⟨hb2.os, hb2.tape, hb2.output, hb2.size, hb2.block⟩; have hS2 := HC.out w2 (HBA.out w2 hb2'); have HB2 : Hid (Below w.heap.size w w2) := HBB.out w2 (HBA.out w2 hb2'); clear hb2 hb2'))
    all_goals
      clear hS2
      go_wp2_with (first | (go_at_call 114; refine (num_any _ _).mono ?_; rintro e w2 ⟨rfl, rfl⟩))
      go_ret
      exact ⟨by simp, HB2.out⟩
set_option maxRecDepth 100000 in
set_option maxHeartbeats 3200000 in
/-- A call that is handed on to asked. -/
theorem does_asked (o : OpV) (bw pb : Nat) (w : World) (Q : World → Prop) (hk : o.kind = 10 ∨ o.kind = 12 ∨ o.kind = 13) (HA : ∀ w1 : World, Below w.heap.size w w1 → Calls Tryz.prog 125 #[.pointer (some ⟨bw, 0, none⟩), .pointer (some ⟨pb, 0, none⟩), o.val] w1 fun e w' => e = .returned (.bool true) ∧ Q w') :
    Calls Tryz.prog 65 #[.pointer (some ⟨bw, 0, none⟩), .pointer (some ⟨pb, 0, none⟩), o.val] w fun e w' => e = .returned (.bool true) ∧ Q w' := by
  obtain ⟨kind, at', x, y, s, t, u, c0, c1, c2⟩ := o
  dsimp only at hk
  unfold OpV.val at HA ⊢
  dsimp only at HA ⊢
  have HAh : Hid (∀ w1 : World, Below w.heap.size w w1 → _) := HA
  clear HA
  rcases hk with rfl | rfl | rfl
  all_goals
    go_enter Tryz.func65, Tryz.ntmps65
    go_wp2_with (first | (go_at_call 125; refine (HAh.out _ ?_).mono ?_; exact (Below.refl _ _).alloc (Nat.le_refl _) _; rintro e w1 ⟨rfl, hq⟩; have HQ : Hid (Q w1) := hq; clear hq))
    go_ret
    exact ⟨rfl, HQ.out⟩
theorem does_file (m : Bool) (o : OpV) (hk : o.kind = 10) (hs : o.s.size ≤ 140737488351232) : Does m o := by
  intro E n bw nd c Fr w κ ds P ls j d p h1 h2 h3 h4 h5 h6 h7 hcb hd hp
  have hpr : ∀ w1 : World, Below w.heap.size w w1 → PairAt w1 κ n j (d, d) p := fun w1 hb => (h1.below hb).pairs j _ p hd hp
  refine (does_asked o bw p.1 w (fun w' => Below w.heap.size w w') (.inl hk) fun w1 hb => ?_).mono ?_
  · refine (asked_file o hk bw p.1 p.2.1 p.2.2 (d.fileR o.s.data.toList) w1 (fun w2 hb2 => ?_) (fun w2 hb2 => ?_) (fun w2 hb2 => ?_)).mono fun e w' ⟨a1, a2⟩ => ⟨a1, hb.trans (a2.mono hb.size)⟩
    · have := (hpr w2 (hb.trans (hb2.mono hb.size))).box
      exact ⟨this.cell (j := 0) rfl, this.cell (j := 1) rfl⟩
    · have hb02 := hb.trans (hb2.mono hb.size)
      obtain ⟨q, hq⟩ := (hpr w2 hb02).px
      exact fileS_any E n _ p.2.1 d q o.s w2 (h2.below (hb02.mono h2.le)) hq hs
    · have hb02 := hb.trans (hb2.mono hb.size)
      obtain ⟨q, hq⟩ := (hpr w2 hb02).py
      exact rfile_any _ p.2.2 d q o.s w2 hq
  · rintro e w' ⟨rfl, hb⟩
    exact ⟨rfl, ⟨c, by omega, fun _ => rfl, Inv.below ⟨κ, ds, P, ls, h1, h2, h3, h4, h5, h6, h7⟩ hb⟩, Chg.of_below hb, hb.cell (p := ⟨bw, 0, none⟩) h1.box.lt, fun g hg => hb.block g (h1.crow g hg).2.2⟩
end Go.Proofs.YtdhgebdbiehchaaGreatDoor
namespace Go.Proofs.YtdhgebdbiehchaaGreatDoor
open Go.RowKit Go.Maps
set_option linter.unusedSimpArgs false
set_option linter.unusedVariables false

set_option maxRecDepth 100000 in
set_option maxHeartbeats 1600000 in
theorem step_made (m : Bool) (o : OpV) (hk : o.kind = 5) : Steps m o := by
  intro E n bw nd c Fr w hI hnd hcb hH
  obtain ⟨kind, at', x, y, s, t, u, c0, c1, c2⟩ := o
  dsimp only at hk
  subst hk
  have HM : Hid (∀ w1 : World, Below w.heap.size w w1 → Calls Tryz.prog 64 #[.pointer (some ⟨bw, 0, none⟩), .int .i64 x] w1 fun e w' => e = .returned (.bool true) ∧ (∃ nd', nd' ≤ nd + 1 ∧ Inv E n bw m nd' c Fr w') ∧ Chg (Mv n Fr) w w') := fun w1 hb =>
    (made_any E n bw nd c m Fr x w1 (hI.below hb) hnd).mono fun e w' ⟨a1, a2, a3⟩ => ⟨a1, a2, chg_mv hb a3⟩
  clear hI hH
  unfold OpV.val
  dsimp only
  go_enter Tryz.func33, Tryz.ntmps33
  go_wp2_with (first | (go_at_call 64; refine (HM.out _ ?_).mono ?_; exact (Below.refl _ _).alloc (Nat.le_refl _) _; rintro e w2 ⟨rfl, hi, hc⟩; have HI2 : Hid (∃ nd', nd' ≤ nd + 1 ∧ Inv E n bw m nd' c Fr w2) := hi; have HC2 : Hid (Chg (Mv n Fr) w w2) := hc; clear hi hc))
  go_ret
  obtain ⟨nd', a1, a2⟩ := HI2.out
  exact ⟨rfl, ⟨nd', c, a1, by omega, fun e => absurd e (by decide), a2⟩, HC2.out⟩
theorem steps_writes (m : Bool) (o : OpV) (h5 : 5 ≤ o.kind) (h10 : o.kind ≤ 10) (hs : o.sized) : Steps m o := by
  rcases (show o.kind = 5 ∨ o.kind = 6 ∨ o.kind = 7 ∨ o.kind = 8 ∨ o.kind = 9 ∨ o.kind = 10 by omega) with hk | hk | hk | hk | hk | hk
  · exact step_made m o hk
  · exact step_does m o (by omega) (by omega) (does_create m o hk)
  · exact step_does m o (by omega) (by omega) (does_put m o hk)
  · exact step_does m o (by omega) (by omega) (does_delete m o hk)
  · exact step_does m o (by omega) (by omega) (does_flush m o hk)
  · exact step_does m o (by omega) (by omega) (does_file m o hk hs.1)
end Go.Proofs.YtdhgebdbiehchaaGreatDoor
