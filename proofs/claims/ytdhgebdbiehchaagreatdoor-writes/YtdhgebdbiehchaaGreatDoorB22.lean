/- The statement's made: one disk more. The contract of the document's store: File. The statement's asked: File; its does, where asked is called. The statement's steps that write: each is answered alike. What the listed package-level variables read as gives the walks: the table of the check. What the listed package-level variables read as gives the walks: the table of the check, the disk's errors, the handle of error. -/
import Derived.Test.YtdhgebdbiehchaaGreatDoorB19
import Derived.Test.YtdhgebdbiehchaaGreatDoorB20
import Derived.Test.YtdhgebdbiehchaaGreatDoorB21
import Derived.Test.YtdhgebdbiehchaaGreatDoorRows
import Derived.Test.YtdhgebdbiehchaaGreatDoorB03
import Derived.LaidMore
import Derived.OpenShut
import Derived.Test.YtdhgebdbiehchaaGreatDoorB04
import Derived.LaidLaws
import Derived.LaidHandle
namespace Go.Proofs.YtdhgebdbiehchaaGreatDoor
open Go.RowKit Go.Maps
set_option linter.unusedSimpArgs false
set_option linter.unusedVariables false

def q0 : RfP := ⟨0, 0, 0, 0, .slice none 0 0⟩
set_option maxHeartbeats 800000 in
theorem rdisk_bad (room : Int) (w : World) (h : room < 0 ∨ 100000 < room) :
    Calls Tryz.prog 117 #[.int .i64 room] w fun e w' => e = .returned (.tuple #[.pointer none, .int .i64 1]) ∧ w' = w := by
  by_cases h0 : room < 0
  · go_enter Tryz.func117, Tryz.ntmps117
    go_wp2
    go_ret2
    exact ⟨rfl, rfl⟩
  · have h1 : 100000 < room := by omega
    go_enter Tryz.func117, Tryz.ntmps117
    go_wp2
    go_ret2
    exact ⟨rfl, rfl⟩
set_option maxHeartbeats 1600000 in
theorem rdisk_good (room : Nat) (w : World) (h : room ≤ 100000) :
    Calls Tryz.prog 117 #[.int .i64 (room : Int)] w fun e w' => e = .returned (.tuple #[.pointer (some ⟨w.heap.size, 0, none⟩), .int .i64 0]) ∧ w' = w.alloc (.cells (refC (dk0 room) q0) 273) := by
  have h0 : ¬ ((room : Int) < 0) := by omega
  have h1 : ¬ ((100000 : Int) < (room : Int)) := by omega
  go_enter Tryz.func117, Tryz.ntmps117
  go_wp2
  go_ret2
  exact ⟨rfl, rfl⟩
theorem ref_new (room : Nat) (w : World) : RefAt (w.alloc (.cells (refC (dk0 room) q0) 273)) (Gnew w (w.alloc (.cells (refC (dk0 room) q0) 273))) w.heap.size (dk0 room) q0 :=
  ⟨bx_new _ _ _ rfl, World.ownsRow_nil _ _ _ _, fun e => (by cases e), fun n k e => (by cases e), by decide, fun b e => (by cases e), ⟨Nat.le_refl _, by simp⟩, fun g e => (by cases e)⟩
theorem info_pair : (Tryz.prog.info? 118).map (fun i => (i.zero, i.size, i.bytes)) = some (some (.pointer none), 1, 8) := by kernel_rfl
def ptrs (ps : List (Nat × Nat × Nat)) : List Value := ps.map fun p => .pointer (some ⟨p.1, 0, none⟩)
theorem app_pair {W : World} {v : Value} {ps : List (Nat × Nat × Nat)} {p : Nat × Nat × Nat} {g0 : Nat} (h1 : W.ownsRow 0 118 1 v ps.length (ptrs ps)) (hg : W.cell? ⟨g0, 0, none⟩ = some (.pointer (some ⟨p.1, 0, none⟩))) (hl : ps.length ≤ 140737488352000 / 8) :
    ∃ g cap w', (Builtin.append_ #[61, 61] 61 #[v, .slice (some ⟨g0, 0, none⟩) 1 1]).run Tryz.prog W = .ok (.slice (some ⟨g, 0, none⟩) (ps.length + 1) cap) w' ∧
      w'.ownsRow 0 118 1 (.slice (some ⟨g, 0, none⟩) (ps.length + 1) cap) (ps.length + 1) (ptrs (ps ++ [p])) ∧ W.grownBy w' v.ownBlock ∧ (v.ownBlock = some g ∨ g = W.heap.size) ∧ g < w'.heap.size := by
  obtain ⟨i0, hi, hz0, hz1, hz2⟩ := info_parts info_pair
  obtain ⟨g, cap, w', a1, a2, a3, a4, a5⟩ := run_append_lies (P := Tryz.prog) W 61 61 0 118 i0 (.pointer none) 1 8 Tryz.underlying61 hi hz0 hz1 hz2 rfl (by decide) v ps.length (ptrs ps) h1 ⟨g0, 0, none⟩ 1 1 [.pointer (some ⟨p.1, 0, none⟩)] rfl (fun j u hu => by cases j with | zero => cases hu; exact hg | succ j => cases hu) (by simp [Value.oneCell']) (by omega) (by unfold maxLen; omega) (by omega) (Nat.zero_le _) _ rfl
  have e : ptrs ps ++ [.pointer (some ⟨p.1, 0, none⟩)] = ptrs (ps ++ [p]) := by simp [ptrs]
  rw [e] at a2
  exact ⟨g, cap, w', a1, a2, a3, a4, a5⟩
theorem own_bx {W : World} {b base e size n : Nat} {cs : Array Value} {t : TypeId} {v : Value} {xs : List Value} (h : Bx W b cs t) (h' : W.ownsRow base e size v n xs) (ht : e ≠ t) : v.ownBlock ≠ some b := by
  rcases own_unlike h h' ht with h1 | h1
  · rw [h1]; simp
  · exact h1
theorem own_rw {w : World} {b1 e1 s1 n1 b2 e2 s2 n2 : Nat} {v1 v2 : Value} {x1 x2 : List Value} (h1 : w.ownsRow b1 e1 s1 v1 n1 x1) (h2 : w.ownsRow b2 e2 s2 v2 n2 x2) (he : e1 ≠ e2) : ∀ g, v1.ownBlock = some g → v2.ownBlock ≠ some g := fun g e1 e2 => by
  rcases own_apart h1 h2 he with h | h
  · rw [h] at e1; cases e1
  · exact h (e1.trans e2.symm)
/-- One pair more. -/
theorem LawAt.pushed {w w1 w2 w4 : World} {κ : Nat → Nat} {n bw : Nat} {ds : List (Dk × Dk)} {P : LawP} {ls : List Mark} {x y g cap : Nat} {d : Dk} {q : StP} {r : RfP} (h : LawAt w κ n bw ds P ls) (hn : n ≤ w.heap.size) (hb1 : Below w.heap.size w w1) (hx : StoreAt w1 (Gnew w w1) x d q) (hb2 : Below w1.heap.size w1 w2) (hy : RefAt w2 (Gnew w1 w2) y d r)
    {t : TypeId} (hg : ((w2.alloc (.cells #[.pointer (some ⟨x, 0, none⟩), .pointer (some ⟨y, 0, none⟩)] 198)).alloc (.cells #[.pointer (some ⟨w2.heap.size, 0, none⟩)] t)).grownBy w4 P.pv.ownBlock)
    (ho : w4.ownsRow 0 118 1 (.slice (some ⟨g, 0, none⟩) (P.ps.length + 1) cap) (P.ps.length + 1) (ptrs (P.ps ++ [(w2.heap.size, x, y)]))) (hat : P.pv.ownBlock = some g ∨ w2.heap.size < g) (hgl : g < w4.heap.size) :
    ∃ κ', LawAt (w4.setCell ⟨bw, 0, none⟩ (.slice (some ⟨g, 0, none⟩) (P.ps.length + 1) cap)) κ' n bw (ds ++ [(d, d)]) ⟨.slice (some ⟨g, 0, none⟩) (P.ps.length + 1) cap, P.ps ++ [(w2.heap.size, x, y)], P.isv, P.imv, P.next⟩ ls ∧ (∀ k, κ k = 1 → k < w.heap.size → κ' k = 1) ∧ Chg (fun k => k = bw ∨ P.pv.ownBlock = some k) w (w4.setCell ⟨bw, 0, none⟩ (.slice (some ⟨g, 0, none⟩) (P.ps.length + 1) cap)) := by
  obtain ⟨w3, hw3⟩ : ∃ w3, w3 = (w2.alloc (.cells #[.pointer (some ⟨x, 0, none⟩), .pointer (some ⟨y, 0, none⟩)] 198)).alloc (.cells #[.pointer (some ⟨w2.heap.size, 0, none⟩)] t) := ⟨_, rfl⟩
  rw [← hw3] at hg
  obtain ⟨w5, hw5⟩ : ∃ w5, w5 = w4.setCell ⟨bw, 0, none⟩ (.slice (some ⟨g, 0, none⟩) (P.ps.length + 1) cap) := ⟨_, rfl⟩
  rw [← hw5]
  have z1 := hb1.size
  have z2 := hb2.size
  have z3 : w3.heap.size = w2.heap.size + 2 := by rw [hw3]; simp
  have z4 := hg.size
  have z5 : w5.heap.size = w4.heap.size := by rw [hw5]; simp
  have hlen := h.len
  have hbw := h.box.lt
  have hb23 : Below w2.heap.size w2 w3 := by rw [hw3]; exact ((Below.refl _ _).alloc (Nat.le_refl _) _).alloc (by simp) _
  have c03 : Chg (fun k => k = bw ∨ P.pv.ownBlock = some k) w w3 := ((Chg.of_below hb1).trans0 hb2).trans0 hb23
  have c04 : Chg (fun k => k = bw ∨ P.pv.ownBlock = some k) w w4 := c03.grown hg (fun k e => .inl (.inr e))
  have c05 : Chg (fun k => k = bw ∨ P.pv.ownBlock = some k) w w5 := by rw [hw5]; exact c04.set bw 0 _ (.inl (.inl rfl))
  have rowlt : ∀ k, P.pv.ownBlock = some k → k < w.heap.size := own_lt h.row
  have c15 : Chg (fun k => k = bw ∨ P.pv.ownBlock = some k) w1 w5 := by
    have a : Chg (fun k => k = bw ∨ P.pv.ownBlock = some k) w1 w4 := ((Chg.of_below hb2).trans0 hb23).grown hg (fun k e => .inl (.inr e))
    rw [hw5]; exact a.set bw 0 _ (.inl (.inl rfl))
  have c25 : Chg (fun k => k = bw ∨ P.pv.ownBlock = some k) w2 w5 := by
    have a : Chg (fun k => k = bw ∨ P.pv.ownBlock = some k) w2 w4 := (Chg.of_below hb23).grown hg (fun k e => .inl (.inr e))
    rw [hw5]; exact a.set bw 0 _ (.inl (.inl rfl))
  obtain ⟨κ', hκ'⟩ : ∃ κ' : Nat → Nat, κ' = fun k => if k < w.heap.size then κ k else if k < w1.heap.size then 2 * ds.length + 2 else if k < w2.heap.size then 2 * ds.length + 3 else if k < w5.heap.size then 0 else κ k := ⟨_, rfl⟩
  have kold : ∀ k, k < w.heap.size → κ' k = κ k := fun k hk => by rw [hκ']; simp only; rw [if_pos hk]
  have knew : ∀ k, w2.heap.size ≤ k → k < w5.heap.size → κ' k = 0 := fun k hk hk2 => by rw [hκ']; simp only; rw [if_neg (by omega), if_neg (by omega), if_neg (by omega), if_pos hk2]
  have hr : ∀ c k, Rg κ n w c k → Rg κ' n w5 c k := fun c k hk => ⟨(kold k hk.2.2).trans hk.1, hk.2.1, by have := hk.2.2; omega⟩
  have np : ∀ k, P.pv.ownBlock = some k → k ≠ bw := fun k e e' => own_bx h.box h.row (by decide) (by rw [← e']; exact e)
  have hbx4 : Bx w4 bw #[P.pv, P.isv, P.imv, .int .i64 P.next] 65 := by
    have a : Bx w3 bw #[P.pv, P.isv, P.imv, .int .i64 P.next] 65 := ((h.box.below hb1 hbw).below hb2 (by omega)).below hb23 (by omega)
    exact (hg.block bw (by omega) (fun e => np bw e.symm rfl)).trans a
  have hgb : g ≠ bw := by
    intro e
    rcases hat with h5 | h5
    · exact np g h5 e
    · omega
  have hpbx : Bx w5 w2.heap.size #[.pointer (some ⟨x, 0, none⟩), .pointer (some ⟨y, 0, none⟩)] 198 := by
    have a : Bx w3 w2.heap.size #[.pointer (some ⟨x, 0, none⟩), .pointer (some ⟨y, 0, none⟩)] 198 := by rw [hw3]; exact (bx_new w2 _ _ rfl).alloc _
    have b : Bx w4 w2.heap.size #[.pointer (some ⟨x, 0, none⟩), .pointer (some ⟨y, 0, none⟩)] 198 := (hg.block w2.heap.size (by omega) (fun e => by have := rowlt _ e.symm; omega)).trans a
    rw [hw5]; exact b.other (by omega) _
  refine ⟨κ', ⟨?_, hr _ _ h.col, ?_, by simp [hlen], ?_, ?_, ?_, ?_⟩, fun k e hk => (kold k hk).trans e, c05⟩
  · rw [hw5]; exact hbx4.setj 0 _
  · rw [List.length_append, hlen]
    show w5.ownsRow _ _ _ _ (ds.length + 1) _
    rw [hw5, ← hlen]
    exact ho.kept (grown_setB _ _ _ _) (.inr fun e => hgb (by simpa [Value.ownBlock] using e))
  · intro k e
    have e' : g = k := by simpa [Value.ownBlock] using e
    subst e'
    rcases hat with h5 | h5
    · exact hr _ _ (h.crow _ h5)
    · exact ⟨knew _ (by omega) (by omega), by omega, by omega⟩
  · intro j d1 p1 hd1 hp1
    by_cases hj : j < ds.length
    · rw [List.getElem?_append_left hj] at hd1
      rw [List.getElem?_append_left (by omega)] at hp1
      have hpr := h.pairs j d1 p1 hd1 hp1
      refine ⟨hpr.box.chg c05 ?_, hr _ _ hpr.col, ?_, ?_⟩
      · rintro (e | e)
        · have a := hpr.box
          rw [e] at a
          have b := h.box
          rw [Bx, a] at b
          injection b with b
          injection b with b1 b2
          have := congrArg Array.size b1
          simp at this
        · exact own_bx hpr.box h.row (by decide) e
      · obtain ⟨q1, hq1⟩ := hpr.px
        refine ⟨q1, (hq1.keep c05 ?_).mono (hr _)⟩
        rintro k hk (e | e)
        · subst e; have := h.col.1; have := hk.1; omega
        · have := (h.crow k e).1; have := hk.1; omega
      · obtain ⟨q1, hq1⟩ := hpr.py
        refine ⟨q1, (hq1.kept c05 ?_).mono (hr _)⟩
        rintro k hk (e | e)
        · subst e; have := h.col.1; have := hk.1; omega
        · have := (h.crow k e).1; have := hk.1; omega
    · have hj2 : j = ds.length := by
        have := (List.getElem?_eq_some_iff.1 hd1).1
        simp at this
        omega
      subst hj2
      rw [List.getElem?_append_right (by omega)] at hd1
      rw [List.getElem?_append_right (by omega)] at hp1
      simp [hlen] at hd1 hp1
      subst hd1
      subst hp1
      refine ⟨hpbx, ⟨knew _ (Nat.le_refl _) (by omega), by omega, by omega⟩, ⟨q, (hx.keep c15 ?_).mono ?_⟩, ⟨r, (hy.kept c25 ?_).mono ?_⟩⟩
      · rintro k hk (e | e)
        · have := hk.1; omega
        · have := rowlt k e; have := hk.1; omega
      · rintro k ⟨hk1, hk2⟩
        refine ⟨?_, by omega, by omega⟩
        rw [hκ']; simp only; rw [if_neg (by omega), if_pos hk2]
      · rintro k hk (e | e)
        · have := hk.1; omega
        · have := rowlt k e; have := hk.1; omega
      · rintro k ⟨hk1, hk2⟩
        refine ⟨?_, by omega, by omega⟩
        rw [hκ']; simp only; rw [if_neg (by omega), if_neg (by omega), if_pos hk2]
  · have nn : ∀ {e size m : Nat} {v : Value} {xs : List Value}, w.ownsRow 0 e size v m xs → e ≠ 118 → e ≠ 65 → ∀ k, v.ownBlock = some k → ¬ (k = bw ∨ P.pv.ownBlock = some k) := fun hrow he1 he2 k e => by
      rintro (e' | e')
      · exact own_bx h.box hrow he2 (by rw [← e']; exact e)
      · exact own_rw hrow h.row he1 k e e'
    have hm := h.marks
    exact ⟨own_chg hm.is c05 (nn hm.is (by decide) (by decide)), own_chg hm.im c05 (nn hm.im (by decide) (by decide)), fun k e => hr _ _ (hm.cis k e), fun k e => hr _ _ (hm.cim k e), fun mk hmk => ⟨own_chg (hm.each mk hmk).1 c05 (nn (hm.each mk hmk).1 (by decide) (by decide)), fun k e => hr _ _ ((hm.each mk hmk).2 k e)⟩⟩
  · intro k hk
    rw [hκ']; simp only
    rw [if_neg (by omega), if_neg (by omega), if_neg (by omega), if_neg (by omega)]
    exact h.out k (by omega)
theorem made_push {w w1 w2 : World} {κ : Nat → Nat} {n bw : Nat} {ds : List (Dk × Dk)} {P : LawP} {ls : List Mark} {x y : Nat} {d : Dk} {q : StP} {r : RfP} (h : LawAt w κ n bw ds P ls) (hn : n ≤ w.heap.size) (hb1 : Below w.heap.size w w1) (hx : StoreAt w1 (Gnew w w1) x d q) (hb2 : Below w1.heap.size w1 w2) (hy : RefAt w2 (Gnew w1 w2) y d r) (hl : ds.length ≤ 1353245081000) :
    ∃ g cap w4, (Builtin.append_ #[61, 61] 61 #[P.pv, .slice (some ⟨w2.heap.size + 1, 0, none⟩) 1 1]).run Tryz.prog ((w2.alloc (.cells #[.pointer (some ⟨x, 0, none⟩), .pointer (some ⟨y, 0, none⟩)] 198)).alloc (.cells #[.pointer (some ⟨w2.heap.size, 0, none⟩)] 118)) = .ok (.slice (some ⟨g, 0, none⟩) (P.ps.length + 1) cap) w4 ∧
      Bx w4 bw #[P.pv, P.isv, P.imv, .int .i64 P.next] 65 ∧
      ∃ κ', LawAt (w4.setCell ⟨bw, 0, none⟩ (.slice (some ⟨g, 0, none⟩) (P.ps.length + 1) cap)) κ' n bw (ds ++ [(d, d)]) ⟨.slice (some ⟨g, 0, none⟩) (P.ps.length + 1) cap, P.ps ++ [(w2.heap.size, x, y)], P.isv, P.imv, P.next⟩ ls ∧ (∀ k, κ k = 1 → k < w.heap.size → κ' k = 1) ∧ Chg (fun k => k = bw ∨ P.pv.ownBlock = some k) w (w4.setCell ⟨bw, 0, none⟩ (.slice (some ⟨g, 0, none⟩) (P.ps.length + 1) cap)) := by
  obtain ⟨w3, hw3⟩ : ∃ w3, w3 = (w2.alloc (.cells #[.pointer (some ⟨x, 0, none⟩), .pointer (some ⟨y, 0, none⟩)] 198)).alloc (.cells #[.pointer (some ⟨w2.heap.size, 0, none⟩)] 118) := ⟨_, rfl⟩
  have z1 := hb1.size
  have z2 := hb2.size
  have z3 : w3.heap.size = w2.heap.size + 2 := by rw [hw3]; simp
  have hb23 : Below w2.heap.size w2 w3 := by rw [hw3]; exact ((Below.refl _ _).alloc (Nat.le_refl _) _).alloc (by simp) _
  have hb03 : Below w.heap.size w w3 := (hb1.trans (hb2.mono z1)).trans (hb23.mono (by omega))
  have hrow : w3.ownsRow 0 118 1 P.pv P.ps.length (ptrs P.ps) := by
    have := own_below h.row hb03 (Nat.le_refl _)
    rw [← h.len] at this
    exact this
  have hcell : w3.cell? ⟨w2.heap.size + 1, 0, none⟩ = some (.pointer (some ⟨w2.heap.size, 0, none⟩)) := by
    rw [hw3]
    exact (bx_new (w2.alloc (.cells #[.pointer (some ⟨x, 0, none⟩), .pointer (some ⟨y, 0, none⟩)] 198)) #[.pointer (some ⟨w2.heap.size, 0, none⟩)] 118 (by simp)).cell (j := 0) rfl
  obtain ⟨g, cap, w4, a1, a2, a3, a4, a5⟩ := app_pair (p := (w2.heap.size, x, y)) hrow hcell (by rw [h.len]; omega)
  have hbx3 : Bx w3 bw #[P.pv, P.isv, P.imv, .int .i64 P.next] 65 := h.box.below hb03 h.box.lt
  have hbx4 : Bx w4 bw #[P.pv, P.isv, P.imv, .int .i64 P.next] 65 := (a3.block bw hbx3.lt (fun e => own_bx h.box h.row (by decide) e.symm)).trans hbx3
  rw [hw3] at a1 a3
  refine ⟨g, cap, w4, a1, hbx4, ?_⟩
  exact h.pushed hn hb1 hx hb2 hy a3 a2 (a4.imp id (fun e => by omega)) a5
theorem Inv.pushed {E : Sent} {n bw nd c : Nat} {m : Bool} {Fr : Nat → Prop} {w w5 : World} {κ κ' : Nat → Nat} {ds : List (Dk × Dk)} {P P' : LawP} {ls : List Mark} {room : Nat} (h1 : LawAt w κ n bw ds P ls) (h2 : Env0 n w E) (h3 : ∀ d ∈ ds, d.1 = d.2 ∧ DkOk d.1) (h4 : m = false → ls = []) (h5 : ds.length = nd) (h6 : ls.length ≤ 4 * c) (h7 : ∀ k, Fr k → κ k = 1 ∧ k < w.heap.size)
    (hr : room ≤ 100000) (hL : LawAt w5 κ' n bw (ds ++ [(dk0 room, dk0 room)]) P' ls) (hκ : ∀ k, κ k = 1 → k < w.heap.size → κ' k = 1) (hC : Chg (fun k => k = bw ∨ P.pv.ownBlock = some k) w w5) : Inv E n bw m (nd + 1) c Fr w5 ∧ Chg (Mv n Fr) w w5 := by
  have hsz := hC.size
  have hmv : Chg (Mv n Fr) w w5 := hC.mono (fun k hk e => by
    have hc0 : Rg κ n w 0 k := by
      rcases e with e | e
      · rw [e]; exact h1.col
      · exact h1.crow k e
    exact ⟨hc0.2.1, fun hf => by have := (h7 k hf).1; have := hc0.1; omega⟩)
  refine ⟨⟨κ', _, P', ls, hL, h2.chg hmv (fun k hk => hk.1), ?_, h4, by simp [h5], h6, fun k hk => ⟨hκ k (h7 k hk).1 (h7 k hk).2, Nat.lt_of_lt_of_le (h7 k hk).2 hsz⟩⟩, hmv⟩
  intro d hd
  simp only [List.mem_append, List.mem_singleton] at hd
  rcases hd with hd | rfl
  · exact h3 d hd
  · refine ⟨rfl, DkOk.disk (room := (room : Int)) ?_⟩
    unfold diskD
    rw [if_neg (by omega)]
    simp [dk0]
set_option maxRecDepth 100000 in
set_option maxHeartbeats 1600000 in
theorem made_any (E : Sent) (n bw nd c : Nat) (m : Bool) (Fr : Nat → Prop) (room : Int) (w : World) (hI : Inv E n bw m nd c Fr w) (hnd : nd ≤ 1353245081000) :
    Calls Tryz.prog 64 #[.pointer (some ⟨bw, 0, none⟩), .int .i64 room] w fun e w' => e = .returned (.bool true) ∧ (∃ nd', nd' ≤ nd + 1 ∧ Inv E n bw m nd' c Fr w') ∧ Chg (Mv n Fr) w w' := by
  by_cases hbad : room < 0 ∨ 100000 < room
  · have HX := disk_bad room w hbad
    have HY := rdisk_bad room w hbad
    have HI : Hid (Inv E n bw m nd c Fr w) := hI
    clear hI hbad
    go_enter Tryz.func64, Tryz.ntmps64
    go_wp2_with (first | (go_at_call 35; refine HX.mono ?_; rintro e w ⟨rfl, rfl⟩) | (go_at_call 117; refine HY.mono ?_; rintro e w ⟨rfl, rfl⟩) | (go_at_call 114; refine (num_any _ _).mono ?_; rintro e w ⟨rfl, rfl⟩))
    go_ret
    exact ⟨rfl, ⟨nd, by omega, HI.out⟩, Chg.refl _ _⟩
  · obtain ⟨r, rfl⟩ : ∃ r : Nat, room = r := ⟨room.toNat, by omega⟩
    have hr : r ≤ 100000 := by omega
    have HX := disk_good r w hr
    have HY : Hid (∀ w1 : World, Calls Tryz.prog 117 #[.int .i64 (r : Int)] w1 fun e w' => e = .returned (.tuple #[.pointer (some ⟨w1.heap.size, 0, none⟩), .int .i64 0]) ∧ RefAt w' (Gnew w1 w') w1.heap.size (dk0 r) q0 ∧ Below w1.heap.size w1 w') := fun w1 => (rdisk_good r w1 hr).mono fun e w' ⟨a1, a2⟩ => by
      subst a2
      exact ⟨a1, ref_new r w1, (Below.refl _ _).alloc (Nat.le_refl _) _⟩
    obtain ⟨κ, ds, P, ls, h1, h2, h3, h4, h5, h6, h7⟩ := hI
    have HPV : Hid (∀ w2 : World, Below w.heap.size w w2 → w2.cell? ⟨bw, 0, none⟩ = some P.pv) := fun w2 hb => (h1.box.below hb h1.box.lt).cell (j := 0) rfl
    have HPU : Hid (∀ (w1 w2 : World) (x y : Nat) (q : StP) (rr : RfP), Below w.heap.size w w1 → StoreAt w1 (Gnew w w1) x (dk0 r) q → Below w1.heap.size w1 w2 → RefAt w2 (Gnew w1 w2) y (dk0 r) rr →
        ∃ g cap w4, (Builtin.append_ #[61, 61] 61 #[P.pv, .slice (some ⟨w2.heap.size + 1, 0, none⟩) 1 1]).run Tryz.prog ((w2.alloc (.cells #[.pointer (some ⟨x, 0, none⟩), .pointer (some ⟨y, 0, none⟩)] 198)).alloc (.cells #[.pointer (some ⟨w2.heap.size, 0, none⟩)] 118)) = .ok (.slice (some ⟨g, 0, none⟩) (P.ps.length + 1) cap) w4 ∧
          w4.cell? ⟨bw, 0, none⟩ = some P.pv ∧ w4.frozen? ⟨bw, 0, none⟩ = false ∧ Hid (Inv E n bw m (nd + 1) c Fr (w4.setCell ⟨bw, 0, none⟩ (.slice (some ⟨g, 0, none⟩) (P.ps.length + 1) cap)) ∧ Chg (Mv n Fr) w (w4.setCell ⟨bw, 0, none⟩ (.slice (some ⟨g, 0, none⟩) (P.ps.length + 1) cap)))) := fun w1 w2 x y q rr b1 b2 b3 b4 => by
      obtain ⟨g, cap, w4, e1, e2, κ', e3, e4, e5⟩ := made_push h1 h2.le b1 b2 b3 b4 (by omega)
      exact ⟨g, cap, w4, e1, e2.cell (j := 0) rfl, e2.frozen 0, Inv.pushed h1 h2 h3 h4 h5 h6 h7 hr e3 e4 e5⟩
    obtain ⟨pv, hpv⟩ : ∃ pv, pv = P.pv := ⟨_, rfl⟩
    obtain ⟨a, cp, hv⟩ := own_len h1.row
    rw [hv] at HPV HPU
    clear h1 h2 h3 h4 h5 h6 h7 hbad hv hpv
    go_enter Tryz.func64, Tryz.ntmps64
    go_wp2_with (first | (go_at_call 35; refine HX.mono ?_; rintro e w1 ⟨x, q, rfl, hx, hb1⟩; have HX1 : Hid (StoreAt w1 (Gnew w w1) x (dk0 r) q) := hx; have HB1 : Hid (Below w.heap.size w w1) := hb1; clear hx hb1) | (go_at_call 117; refine (HY.out _).mono ?_; rintro e w2 ⟨rfl, hy, hb2⟩; have c0 := HPV.out w2 (HB1.out.trans (hb2.mono HB1.out.size)); obtain ⟨g, cap, w4, hrun, c4, f4, hend⟩ := HPU.out w1 w2 _ _ _ _ HB1.out HX1.out hb2 hy; have HRUN : Hid _ := hrun; clear hy hb2 hrun) | (go_at_call 114; refine (num_any _ _).mono ?_; rintro e w2 ⟨rfl, rfl⟩) | (at_builtin; refine wp_append_run rfl (.tmp 37) (.tmp 42) 61 61 rfl rfl rfl HRUN.out ?_))
    go_ret
    exact ⟨rfl, ⟨nd + 1, by omega, hend.out.1⟩, hend.out.2⟩
end Go.Proofs.YtdhgebdbiehchaaGreatDoor
namespace Go.Proofs.YtdhgebdbiehchaaGreatDoor
open Go.RowKit Go.Maps
set_option linter.unusedSimpArgs false
set_option linter.unusedVariables false

theorem fileR_down {d : Dk} {l : List UInt8} (h : d.down = true) : d.fileR l = ([], 7) := by unfold Dk.fileR; rw [if_pos h]
theorem fileR_none {d : Dk} {s : ByteArray} (hd : d.down = false) (h : ∀ i, i < 3 → ¬ (S (nm i) = s ∧ (d.file i).isSome = true)) : d.fileR s.data.toList = ([], 2) := by
  unfold Dk.fileR
  rw [if_neg (by simp [hd])]
  cases hf : d.file (nameN s.data.toList) with
  | none => rfl
  | some f =>
    exfalso
    have h2 := file_le hf
    refine h (nameN s.data.toList) (by omega) ⟨?_, by rw [hf]; rfl⟩
    rw [nm_nameN h2]
    rfl
theorem fileR_some {d : Dk} {s : ByteArray} {i : Nat} {f : Fl} (hd : d.down = false) (hi : i < 3) (hs : S (nm i) = s) (hf : d.file i = some f) : d.fileR s.data.toList = (f.text, 0) := by
  subst hs
  unfold Dk.fileR
  rw [if_neg (by simp [hd]), show (S (nm i)).data.toList = nm i from rfl, nameN_nm (by omega), hf]
set_option maxRecDepth 100000 in
set_option maxHeartbeats 1600000 in
theorem rfile_any (G : Nat → Prop) (b : Nat) (d : Dk) (q : RfP) (s : ByteArray) (w : World) (hR : RefAt w G b d q) :
    Calls Tryz.prog 178 #[.pointer (some ⟨b, 0, none⟩), .string s] w fun e w' => e = .returned (.tuple #[.string (S (d.fileR s.data.toList).1), .int .i64 (d.fileR s.data.toList).2]) ∧ Below w.heap.size w w' := by
  have c1 : w.cell? ⟨b, 1, none⟩ = some (.bool d.down) := hR.box.cell (j := 1) rfl
  cases hd : d.down with
  | true =>
    have HE : Hid (d.fileR s.data.toList = ([], 7)) := fileR_down hd
    rw [hd] at c1
    clear hR
    go_enter Tryz.func178, Tryz.ntmps178
    go_wp2
    go_ret2
    exact ⟨by rw [HE.out]; rfl, Below.refl _ _⟩
  | false =>
    rw [hd] at c1
    have HR : Hid (RefAt w G b d q) := hR
    clear hR
    go_enter Tryz.func178, Tryz.ntmps178
    go_wp2
    go_loopw [7] (fun i wr => ∃ (k : Nat), k ≤ 3 ∧ i = .int .i64 k ∧ Hid (∀ i, i < k → ¬ (S (nm i) = s ∧ (d.file i).isSome = true)) ∧ wr = w.alloc (.cells #[.string ⟨#[108, 111, 103]⟩, .string ⟨#[110, 101, 119]⟩, .string ⟨#[105, 110, 100, 101, 120]⟩] 9)) (fun i _ => 3 - (intOf i).toNat)
    case atStart => exact ⟨0, by omega, rfl, fun i hi => absurd hi (by omega), rfl⟩
    case round =>
      obtain ⟨k, hk, rfl, HN, rfl⟩ := hrel
      have HB : Hid (Below w.heap.size w (w.alloc (.cells #[.string ⟨#[108, 111, 103]⟩, .string ⟨#[110, 101, 119]⟩, .string ⟨#[105, 110, 100, 101, 120]⟩] 9))) := (Below.refl _ _).alloc (Nat.le_refl _) _
      by_cases hlt : k < 3
      · have HRA := HR.out.below HB.out
        obtain ⟨g0, g1, g2⟩ := file_cells HRA.box hlt
        have nmc : (w.alloc (.cells #[.string ⟨#[108, 111, 103]⟩, .string ⟨#[110, 101, 119]⟩, .string ⟨#[105, 110, 100, 101, 120]⟩] 9)).cell? ⟨w.heap.size, k, none⟩ = some (.string (S (nm k))) := by
          have e : (w.alloc (.cells #[.string ⟨#[108, 111, 103]⟩, .string ⟨#[110, 101, 119]⟩, .string ⟨#[105, 110, 100, 101, 120]⟩] 9)).cell? ⟨w.heap.size, k, none⟩ = _ := World.cell?_alloc_new w _ _ k
          rw [e]
          match k, hlt with
          | 0, _ => rfl
          | 1, _ => rfl
          | 2, _ => rfl
        clear g2 HRA
        generalize hW : (w.alloc (.cells #[.string ⟨#[108, 111, 103]⟩, .string ⟨#[110, 101, 119]⟩, .string ⟨#[105, 110, 100, 101, 120]⟩] 9)) = W at *
        by_cases hs : S (nm k) = s
        · have HS : Hid (S (nm k) = s) := hs
          rw [hs] at nmc
          clear hs
          cases hf : d.file k with
          | none =>
            have HF : Hid (d.file k = none) := hf
            rw [hf] at g0 g1
            have g0' : W.cell? ⟨b, 2 + k * 3, none⟩ = some (.bool false) := g0
            clear g0 g1 hf
            go_wp2
            go_roundw
            case rel =>
              refine ⟨k + 1, by omega, by go_num, fun i hi => ?_, trivial⟩
              by_cases e : i = k
              · subst e; rw [HF.out]; simp
              · exact HN.out i (by omega)
            case measure => simp [intOf]; omega
          | some f =>
            have HE : Hid (d.fileR s.data.toList = (f.text, 0)) := fileR_some hd hlt HS.out hf
            rw [hf] at g0 g1
            have g0' : W.cell? ⟨b, 2 + k * 3, none⟩ = some (.bool true) := g0
            have g1' : W.cell? ⟨b, 2 + k * 3 + 1, none⟩ = some (.string (S f.text)) := g1
            clear g0 g1 hf HN
            go_wp2
            go_ret2
            exact ⟨by rw [HE.out]; rfl, HB.out⟩
        · have hs' : ¬ (Value.string (S (nm k)) = Value.string s) := by intro e; injection e with e; exact hs e
          have HSN : Hid (¬ S (nm k) = s) := hs
          clear g0 g1
          have hsl : ((S (nm k)).toList == s.toList) = false := by
            rw [ByteArray.toList_eq, ByteArray.toList_eq, S_data, beq_eq_false_iff_ne]
            intro e
            exact hs (by rw [e]; rfl)
          clear hs' HSN
          generalize hnk : S (nm k) = nk at *
          go_wp2
          go_roundw
          case rel =>
            refine ⟨k + 1, by omega, by go_num, fun i hi => ?_, trivial⟩
            by_cases e : i = k
            · subst e; exact fun h => hs (hnk.symm.trans h.1)
            · exact HN.out i (by omega)
          case measure => simp [intOf]; omega
      · have e : k = 3 := by omega
        subst e
        have HE : Hid (d.fileR s.data.toList = ([], 2)) := fileR_none hd HN.out
        go_wp2
        go_ret2
        exact ⟨by rw [HE.out]; rfl, HB.out⟩
end Go.Proofs.YtdhgebdbiehchaaGreatDoor
namespace Go.Proofs.YtdhgebdbiehchaaGreatDoor
open Go.RowKit Go.Maps
set_option linter.unusedSimpArgs false
set_option linter.unusedVariables false

set_option maxRecDepth 100000 in
set_option maxHeartbeats 3200000 in
theorem asked_file (o : OpV) (hk : o.kind = 10) (bw pb : Nat) (x y : Nat) (r : List UInt8 × Int) (w : World) (c0 : ∀ w1 : World, Below w.heap.size w w1 → w1.cell? ⟨pb, 0, none⟩ = some (.pointer (some ⟨x, 0, none⟩)) ∧ w1.cell? ⟨pb, 1, none⟩ = some (.pointer (some ⟨y, 0, none⟩)))
    (HX : ∀ w1 : World, Below w.heap.size w w1 → Calls Tryz.prog 19 #[.pointer (some ⟨x, 0, none⟩), .string o.s] w1 fun e w' => e = .returned (.tuple #[.string (S r.1), .int .i64 r.2]) ∧ Below w1.heap.size w1 w')
    (HY : ∀ w1 : World, Below w.heap.size w w1 → Calls Tryz.prog 178 #[.pointer (some ⟨y, 0, none⟩), .string o.s] w1 fun e w' => e = .returned (.tuple #[.string (S r.1), .int .i64 r.2]) ∧ Below w1.heap.size w1 w') :
    Calls Tryz.prog 125 #[.pointer (some ⟨bw, 0, none⟩), .pointer (some ⟨pb, 0, none⟩), o.val] w fun e w' => e = .returned (.bool true) ∧ Below w.heap.size w w' := by
  obtain ⟨kind, at', xx, yy, s, t, u, c0', c1, c2⟩ := o
  dsimp only at hk HX HY
  subst hk
  have hB : Below w.heap.size w (w.alloc (.cells (opC ⟨10, at', xx, yy, s, t, u, c0', c1, c2⟩) 68)) := (Below.refl _ _).alloc (Nat.le_refl _) _
  have hzW : w.heap.size < (w.alloc (.cells (opC ⟨10, at', xx, yy, s, t, u, c0', c1, c2⟩) 68)).heap.size := by simp
  have HBB : Hid (∀ w1 : World, Below (w.alloc (.cells (opC ⟨10, at', xx, yy, s, t, u, c0', c1, c2⟩) 68)).heap.size (w.alloc (.cells (opC ⟨10, at', xx, yy, s, t, u, c0', c1, c2⟩) 68)) w1 → Below w.heap.size w w1) := fun w1 hb => hB.trans (hb.mono (by omega))
  have HC : Hid (∀ w1 : World, Below (w.alloc (.cells (opC ⟨10, at', xx, yy, s, t, u, c0', c1, c2⟩) 68)).heap.size (w.alloc (.cells (opC ⟨10, at', xx, yy, s, t, u, c0', c1, c2⟩) 68)) w1 → (w1.cell? ⟨pb, 0, none⟩ = some (.pointer (some ⟨x, 0, none⟩)) ∧ w1.cell? ⟨pb, 1, none⟩ = some (.pointer (some ⟨y, 0, none⟩))) ∧ w1.cell? ⟨w.heap.size, 4, none⟩ = some (.string s)) := fun w1 hb => ⟨c0 w1 (HBB.out w1 hb), ((bx_new w (opC ⟨10, at', xx, yy, s, t, u, c0', c1, c2⟩) 68 rfl).below hb hzW).cell (j := 4) rfl⟩
  have HXh : Hid (∀ w1 : World, Below w.heap.size w w1 → _) := HX
  have HYh : Hid (∀ w1 : World, Below w.heap.size w w1 → _) := HY
  have HS0 := HC.out _ (Below.refl _ _)
  have HS0h : Hid ((_ ∧ _) ∧ _) := HS0
  clear hB c0 HX HY hzW HS0
  obtain ⟨rs, rn⟩ := r
  dsimp only at *
  unfold OpV.val
  dsimp only
  go_enter Tryz.func125, Tryz.ntmps125
  go_wp2_with fail
  go_region_held3 (fun w' => (w'.cell? ⟨pb, 0, none⟩ = some (.pointer (some ⟨x, 0, none⟩)) ∧ w'.cell? ⟨pb, 1, none⟩ = some (.pointer (some ⟨y, 0, none⟩))) ∧ w'.cell? ⟨w.heap.size, 4, none⟩ = some (.string s)) (first | (exact HS0h.out) | (assumption)) (first | (go_at_call 19; refine (HXh.out _ ?_).mono ?_; exact ((Below.refl _ _).alloc (Nat.le_refl _) _).drew; rintro e w1 ⟨rfl, hb1⟩; have hb1' : Below (w.alloc (.cells (opC ⟨10, at', xx, yy, s, t, u, c0', c1, c2⟩) 68)).heap.size (w.alloc (.cells (opC ⟨10, at', xx, yy, s, t, u, c0', c1, c2⟩) 68)) w1 := ⟨hb1.os, hb1.tape, hb1.output, hb1.size, hb1.block⟩; have hS1 := HC.out w1 hb1'; have HB1 : Hid (Below w.heap.size w w1) := HBB.out w1 hb1'; have HBA : Hid (∀ w2 : World, Below w1.heap.size w1 w2 → Below (w.alloc (.cells (opC ⟨10, at', xx, yy, s, t, u, c0', c1, c2⟩) 68)).heap.size (w.alloc (.cells (opC ⟨10, at', xx, yy, s, t, u, c0', c1, c2⟩) 68)) w2) := fun w2 hb2 => hb1'.trans (hb2.mono hb1'.size); have HS1 : Hid ((_ ∧ _) ∧ _) := hS1; clear hb1 hb1'))
  all_goals
    clear hS1
    go_wp2_with fail
    go_region_held3 (fun w' => (w'.cell? ⟨pb, 0, none⟩ = some (.pointer (some ⟨x, 0, none⟩)) ∧ w'.cell? ⟨pb, 1, none⟩ = some (.pointer (some ⟨y, 0, none⟩))) ∧ w'.cell? ⟨w.heap.size, 4, none⟩ = some (.string s)) (first | (exact HS1.out) | (assumption)) (first | (go_at_call 178; refine (HYh.out _ ?_).mono ?_; exact HB1.out.drew; rintro e w2 ⟨rfl, hb2⟩; have hb2' : Below w1.heap.size w1 w2 := ⟨hb2.os, hb2.tape, hb2.output, hb2.size, hb2.block⟩; have hS2 := HC.out w2 (HBA.out w2 hb2'); have HB2 : Hid (Below w.heap.size w w2) := HBB.out w2 (HBA.out w2 hb2'); clear hb2 hb2'))
    all_goals
      clear hS2
      go_wp2_with (first | (go_at_call 114; refine (num_any _ _).mono ?_; rintro e w2 ⟨rfl, rfl⟩))
      go_ret
      exact ⟨by simp, HB2.out⟩
set_option maxRecDepth 100000 in
set_option maxHeartbeats 3200000 in
/-- A call that is handed on to asked. -/
theorem does_asked (o : OpV) (bw pb : Nat) (w : World) (Q : World → Prop) (hk : o.kind = 10 ∨ o.kind = 12 ∨ o.kind = 13) (HA : ∀ w1 : World, Below w.heap.size w w1 → Calls Tryz.prog 125 #[.pointer (some ⟨bw, 0, none⟩), .pointer (some ⟨pb, 0, none⟩), o.val] w1 fun e w' => e = .returned (.bool true) ∧ Q w') :
    Calls Tryz.prog 65 #[.pointer (some ⟨bw, 0, none⟩), .pointer (some ⟨pb, 0, none⟩), o.val] w fun e w' => e = .returned (.bool true) ∧ Q w' := by
  obtain ⟨kind, at', x, y, s, t, u, c0, c1, c2⟩ := o
  dsimp only at hk
  unfold OpV.val at HA ⊢
  dsimp only at HA ⊢
  have HAh : Hid (∀ w1 : World, Below w.heap.size w w1 → _) := HA
  clear HA
  rcases hk with rfl | rfl | rfl
  all_goals
    go_enter Tryz.func65, Tryz.ntmps65
    go_wp2_with (first | (go_at_call 125; refine (HAh.out _ ?_).mono ?_; exact (Below.refl _ _).alloc (Nat.le_refl _) _; rintro e w1 ⟨rfl, hq⟩; have HQ : Hid (Q w1) := hq; clear hq))
    go_ret
    exact ⟨rfl, HQ.out⟩
theorem does_file (m : Bool) (o : OpV) (hk : o.kind = 10) (hs : o.s.size ≤ 140737488351232) : Does m o := by
  intro E n bw nd c Fr w κ ds P ls j d p h1 h2 h3 h4 h5 h6 h7 hcb hd hp
  have hpr : ∀ w1 : World, Below w.heap.size w w1 → PairAt w1 κ n j (d, d) p := fun w1 hb => (h1.below hb).pairs j _ p hd hp
  refine (does_asked o bw p.1 w (fun w' => Below w.heap.size w w') (.inl hk) fun w1 hb => ?_).mono ?_
  · refine (asked_file o hk bw p.1 p.2.1 p.2.2 (d.fileR o.s.data.toList) w1 (fun w2 hb2 => ?_) (fun w2 hb2 => ?_) (fun w2 hb2 => ?_)).mono fun e w' ⟨a1, a2⟩ => ⟨a1, hb.trans (a2.mono hb.size)⟩
    · have := (hpr w2 (hb.trans (hb2.mono hb.size))).box
      exact ⟨this.cell (j := 0) rfl, this.cell (j := 1) rfl⟩
    · have hb02 := hb.trans (hb2.mono hb.size)
      obtain ⟨q, hq⟩ := (hpr w2 hb02).px
      exact fileS_any E n _ p.2.1 d q o.s w2 (h2.below (hb02.mono h2.le)) hq hs
    · have hb02 := hb.trans (hb2.mono hb.size)
      obtain ⟨q, hq⟩ := (hpr w2 hb02).py
      exact rfile_any _ p.2.2 d q o.s w2 hq
  · rintro e w' ⟨rfl, hb⟩
    exact ⟨rfl, ⟨c, by omega, fun _ => rfl, Inv.below ⟨κ, ds, P, ls, h1, h2, h3, h4, h5, h6, h7⟩ hb⟩, Chg.of_below hb, hb.cell (p := ⟨bw, 0, none⟩) h1.box.lt, fun g hg => hb.block g (h1.crow g hg).2.2⟩
end Go.Proofs.YtdhgebdbiehchaaGreatDoor
namespace Go.Proofs.YtdhgebdbiehchaaGreatDoor
open Go.RowKit Go.Maps
set_option linter.unusedSimpArgs false
set_option linter.unusedVariables false

set_option maxRecDepth 100000 in
set_option maxHeartbeats 1600000 in
theorem step_made (m : Bool) (o : OpV) (hk : o.kind = 5) : Steps m o := by
  intro E n bw nd c Fr w hI hnd hcb hH
  obtain ⟨kind, at', x, y, s, t, u, c0, c1, c2⟩ := o
  dsimp only at hk
  subst hk
  have HM : Hid (∀ w1 : World, Below w.heap.size w w1 → Calls Tryz.prog 64 #[.pointer (some ⟨bw, 0, none⟩), .int .i64 x] w1 fun e w' => e = .returned (.bool true) ∧ (∃ nd', nd' ≤ nd + 1 ∧ Inv E n bw m nd' c Fr w') ∧ Chg (Mv n Fr) w w') := fun w1 hb =>
    (made_any E n bw nd c m Fr x w1 (hI.below hb) hnd).mono fun e w' ⟨a1, a2, a3⟩ => ⟨a1, a2, chg_mv hb a3⟩
  clear hI hH
  unfold OpV.val
  dsimp only
  go_enter Tryz.func33, Tryz.ntmps33
  go_wp2_with (first | (go_at_call 64; refine (HM.out _ ?_).mono ?_; exact (Below.refl _ _).alloc (Nat.le_refl _) _; rintro e w2 ⟨rfl, hi, hc⟩; have HI2 : Hid (∃ nd', nd' ≤ nd + 1 ∧ Inv E n bw m nd' c Fr w2) := hi; have HC2 : Hid (Chg (Mv n Fr) w w2) := hc; clear hi hc))
  go_ret
  obtain ⟨nd', a1, a2⟩ := HI2.out
  exact ⟨rfl, ⟨nd', c, a1, by omega, fun e => absurd e (by decide), a2⟩, HC2.out⟩
theorem steps_writes (m : Bool) (o : OpV) (h5 : 5 ≤ o.kind) (h10 : o.kind ≤ 10) (hs : o.sized) : Steps m o := by
  rcases (show o.kind = 5 ∨ o.kind = 6 ∨ o.kind = 7 ∨ o.kind = 8 ∨ o.kind = 9 ∨ o.kind = 10 by omega) with hk | hk | hk | hk | hk | hk
  · exact step_made m o hk
  · exact step_does m o (by omega) (by omega) (does_create m o hk)
  · exact step_does m o (by omega) (by omega) (does_put m o hk)
  · exact step_does m o (by omega) (by omega) (does_delete m o hk)
  · exact step_does m o (by omega) (by omega) (does_flush m o hk)
  · exact step_does m o (by omega) (by omega) (does_file m o hk hs.1)
end Go.Proofs.YtdhgebdbiehchaaGreatDoor
namespace Go.Proofs.YtdhgebdbiehchaaGreatDoor
open Go.RowKit
set_option linter.unusedSimpArgs false
set_option linter.unusedVariables false

theorem gHalves : Tryz.prog.globalNamed "ledge/sums.halves" = some 6 := by kernel_rfl
theorem tHalves : (Tryz.prog.globals[6]?).map (·.type) = some 309 := by kernel_rfl
theorem cells_u32 : Tryz.prog.cellsOf 227 = 1 := by kernel_rfl
theorem halves_datum : Rows.laid_ledge_sums_halves (H := Unit) = .agg (halvesL.map fun n : Nat => .lit (.int .u32 (n : Int))) := rfl

theorem halves_of_vars {W : World} {r : List (String × DataW Unit)} {ps : List MemPlace} (h : DataW.LaidVars Tryz.prog W (("ledge/sums.halves", Rows.laid_ledge_sums_halves) :: r) ps) : HalvesAt W := by
  obtain ⟨g0, t0, cs0, f0, p0, q0, hg0, ht0, hv0, hd0, _, _⟩ := h
  obtain rfl := Option.some.inj (gHalves.symm.trans hg0)
  obtain rfl := Option.some.inj (tHalves.symm.trans ht0)
  have hcell : ∀ i, i < 16 → W.cell? ⟨6, i, none⟩ = some (.int .u32 (halvesL.getD i 0 : Nat)) := by
    intro i hi
    obtain ⟨xs, m1, rfl, hx1, hlen, hn3, hel⟩ := DataW.trod_array Tryz.underlying309 hd0
    have h0 := hel i hi
    rw [cells_u32, Nat.mul_one] at h0
    have hxi : i < xs.length := by omega
    rw [List.getElem?_eq_getElem hxi] at h0
    obtain ⟨k, e1, e2, _⟩ := DataW.trod_int Tryz.underlying227 h0
    simp only [Prod.mk.injEq] at hx1
    have hm := hx1.1
    rw [halves_datum] at hm
    simp only [DataW.agg.injEq] at hm
    have hm2 : (halvesL.map fun n : Nat => (DataW.lit (.int .u32 (n : Int)) : DataW Unit))[i]? = (xs.map (·.1))[i]? := by rw [hm]
    have hl : i < halvesL.length := hi
    rw [List.getElem?_map, List.getElem?_map, List.getElem?_eq_getElem hxi, List.getElem?_eq_getElem hl, e2] at hm2
    simp at hm2
    have hc := World.var?_cell gHalves hv0 i
    have hcs : cs0[i]? = some (.int .u32 k) := by
      have h3 : (cs0.toList.drop i).take 1 = [.int .u32 k] := e1
      have h4 : ((cs0.toList.drop i).take 1)[0]? = some (.int .u32 k) := by rw [h3]; rfl
      rw [List.getElem?_take_of_lt (by omega), List.getElem?_drop] at h4
      simpa using h4
    rw [hc, hcs, ← hm2, List.getD_eq_getElem?_getD, List.getElem?_eq_getElem hl]
    rfl
  refine ⟨?_, hcell⟩
  have := hcell 0 (by omega)
  rcases Nat.lt_or_ge 6 W.heap.size with h | h
  · exact h
  · simp [World.cell?, Array.getElem?_eq_none h] at this
theorem halves_of_laid {W : World} (h : laidMetH Tryz.prog Rows.indexesRow.laid W) : HalvesAt W := by
  have h' : laidMet Tryz.prog [("ledge/sums.halves", Rows.laid_ledge_sums_halves), ("ledge/disk.ErrRoom", Rows.laid_ledge_disk_ErrRoom), ("ledge/disk.ErrNoFile", Rows.laid_ledge_disk_ErrNoFile), ("ledge/disk.ErrDown", Rows.laid_ledge_disk_ErrDown), ("ledge/disk.ErrUp", Rows.laid_ledge_disk_ErrUp), ("ledge/disk.ErrPower", Rows.laid_ledge_disk_ErrPower)] W ∧ handlesMet Tryz.prog [("errors.errorType", Rows.laid_errors_errorType)] W := h
  obtain ⟨ps, hv, _, _⟩ := h'.1
  exact halves_of_vars hv
end Go.Proofs.YtdhgebdbiehchaaGreatDoor
namespace Go.Proofs.YtdhgebdbiehchaaGreatDoor
open Go.RowKit Go.ChangeShapes Go.WideShapes
set_option linter.unusedSimpArgs false
set_option linter.unusedVariables false

theorem gET : Tryz.prog.globalNamed "errors.errorType" = some 4 := by kernel_rfl
theorem gRoom : Tryz.prog.globalNamed "ledge/disk.ErrRoom" = some 0 := by kernel_rfl
theorem gGone : Tryz.prog.globalNamed "ledge/disk.ErrNoFile" = some 5 := by kernel_rfl
theorem gDown : Tryz.prog.globalNamed "ledge/disk.ErrDown" = some 1 := by kernel_rfl
theorem gUp : Tryz.prog.globalNamed "ledge/disk.ErrUp" = some 3 := by kernel_rfl
theorem gPower : Tryz.prog.globalNamed "ledge/disk.ErrPower" = some 2 := by kernel_rfl
theorem tRoom : (Tryz.prog.globals[0]?).map (·.type) = some 80 := by kernel_rfl
theorem tGone : (Tryz.prog.globals[5]?).map (·.type) = some 80 := by kernel_rfl
theorem tDown : (Tryz.prog.globals[1]?).map (·.type) = some 80 := by kernel_rfl
theorem tUp : (Tryz.prog.globals[3]?).map (·.type) = some 80 := by kernel_rfl
theorem tPower : (Tryz.prog.globals[2]?).map (·.type) = some 80 := by kernel_rfl
theorem cells_es : Tryz.prog.cellsOf 370 = 1 := by kernel_rfl
theorem cells_st : Tryz.prog.cellsOf 9 = 1 := by kernel_rfl
theorem es_star : "*" ++ "errors.errorString" = "*errors.errorString" := by decide
theorem es_row (u : TypeId) (h : Tryz.prog.typeName? 3 u = some "*errors.errorString") : u = 352 :=
  typeName_ptr_named (nm := "errors.errorString") (by rw [es_star]; kernel_rfl) (by kernel_rfl) (by decide) u (by rw [es_star]; exact h)
theorem et_rt : (Tryz.prog.cutTypes.find? (·.1 == "internal/reflectlite.rtype")).map (·.2) = some 280 := by kernel_rfl
theorem et_size : Tryz.prog.types.size = 382 := by kernel_rfl
theorem et_one : ((List.range 382).filter fun t => Tryz.prog.rowNamed t [101, 114, 114, 111, 114]) = [80] := by kernel_rfl
theorem et_handle : typeHandle Tryz.prog 80 = .pointer (some ⟨7, 80, none⟩) := by kernel_rfl
abbrev laidSix : List (String × DataW Unit) := [("ledge/sums.halves", Rows.laid_ledge_sums_halves), ("ledge/disk.ErrRoom", Rows.laid_ledge_disk_ErrRoom), ("ledge/disk.ErrNoFile", Rows.laid_ledge_disk_ErrNoFile), ("ledge/disk.ErrDown", Rows.laid_ledge_disk_ErrDown), ("ledge/disk.ErrUp", Rows.laid_ledge_disk_ErrUp), ("ledge/disk.ErrPower", Rows.laid_ledge_disk_ErrPower)]
set_option maxRecDepth 100000 in
theorem handle_of_laid {W : World} (h : handlesMet Tryz.prog [("errors.errorType", Rows.laid_errors_errorType)] W) : W.cell? ⟨4, 0, none⟩ = some (.iface 280 (.agg #[.pointer (some ⟨7, 80, none⟩)])) := by
  obtain ⟨name, u, ty, e1, e2, e3, e4, e5⟩ := h _ (List.mem_singleton.2 rfl)
  have en : name = [101, 114, 114, 111, 114] := (Option.some.inj e1).symm
  subst en
  obtain rfl := Option.some.inj (et_rt.symm.trans e2)
  have hm : ty ∈ (List.range 382).filter fun t => Tryz.prog.rowNamed t [101, 114, 114, 111, 114] := List.mem_filter.2 ⟨List.mem_range.2 (Nat.lt_of_lt_of_eq e3 et_size), e4⟩
  rw [et_one] at hm
  obtain rfl := List.mem_singleton.1 hm
  rw [et_handle] at e5
  simpa using World.var?_cell gET e5 0
set_option maxRecDepth 100000 in
theorem sent_of {W : World} {g : Nat} {n : String} {cs : Array Value} {f : Nat} {text : List UInt8} {p : List MemPlace} (hg : Tryz.prog.globalNamed n = some g) (hv : W.var? Tryz.prog n = some cs) (hd : DataW.trod (fun _ => ()) Tryz.prog W 0 (fun _ => true) false f 80 cs.toList = some (.iface "*errors.errorString" (.ptr (.agg [.lit (.string text)])), p))
    (hok : ∀ u v, W.cell? ⟨g, 0, none⟩ = some (.iface u v) → Value.okWide Tryz.prog W .any 0 u v) : ∃ a, W.cell? ⟨g, 0, none⟩ = some (.iface 352 (.pointer (some a))) ∧ p = MemPlace.row a 1 ∧ cs.size = 1 := by
  obtain ⟨l⟩ := cs
  have hc := World.var?_cell hg hv 0
  obtain ⟨a, s, e, _, _, _, hp⟩ := errorString_of_trod Tryz.underlying80 es_row Tryz.underlying352 Tryz.underlying370 rfl rfl Tryz.underlying9 cells_es cells_st hd (fun u v e => hok u v (by
    have e' : l = [.iface u v] := e
    subst e'
    exact hc.trans rfl))
  have e' : l = [.iface 352 (.pointer (some a))] := e
  subst e'
  exact ⟨a, hc.trans rfl, hp, rfl⟩
set_option maxRecDepth 100000 in
theorem env_of_parts {W : World} (h1 : laidMet Tryz.prog laidSix W) (h2 : handlesMet Tryz.prog [("errors.errorType", Rows.laid_errors_errorType)] W) : ∃ E, Env W E := by
  have hh : HalvesAt W := by
    obtain ⟨ps, hv, _, _⟩ := h1
    exact halves_of_vars hv
  obtain ⟨ps, ⟨g0, t0, cs0, f0, p0, q0, hg0, ht0, hv0, hd0, ⟨g1, t1, cs1, f1, p1, q1, hg1, ht1, hv1, hd1, ⟨g2, t2, cs2, f2, p2, q2, hg2, ht2, hv2, hd2, ⟨g3, t3, cs3, f3, p3, q3, hg3, ht3, hv3, hd3, ⟨g4, t4, cs4, f4, p4, q4, hg4, ht4, hv4, hd4, ⟨g5, t5, cs5, f5, p5, q5, hg5, ht5, hv5, hd5, hq5, e5⟩, e4⟩, e3⟩, e2⟩, e1⟩, e0⟩, hnd, hrows⟩ := h1
  obtain rfl := Option.some.inj (gRoom.symm.trans hg1)
  obtain rfl := Option.some.inj (gGone.symm.trans hg2)
  obtain rfl := Option.some.inj (gDown.symm.trans hg3)
  obtain rfl := Option.some.inj (gUp.symm.trans hg4)
  obtain rfl := Option.some.inj (gPower.symm.trans hg5)
  obtain rfl := Option.some.inj (tRoom.symm.trans ht1)
  obtain rfl := Option.some.inj (tGone.symm.trans ht2)
  obtain rfl := Option.some.inj (tDown.symm.trans ht3)
  obtain rfl := Option.some.inj (tUp.symm.trans ht4)
  obtain rfl := Option.some.inj (tPower.symm.trans ht5)
  have hq5' : q5 = [] := hq5
  subst hq5'
  subst e5 e4 e3 e2 e1 e0
  have one : ∀ {l : Array Value} {g : Nat} {n : String} {f : Nat} {x : DataW Unit} {p : List MemPlace}, Tryz.prog.globalNamed n = some g → W.var? Tryz.prog n = some l → DataW.trod (fun _ => ()) Tryz.prog W 0 (fun _ => true) false f 80 l.toList = some (x, p) → (∀ nm d, x = .iface nm d → 0 < l.size) := fun {l g n f x p} _ _ hd nm d hx => by
    subst hx
    obtain ⟨f1, u, v, hl, _, _⟩ := iface_of_trod Tryz.underlying80 hd
    have := congrArg List.length hl
    simp at this
    omega
  have z1 := one hg1 hv1 hd1 _ _ rfl
  have z2 := one hg2 hv2 hd2 _ _ rfl
  have z3 := one hg3 hv3 hd3 _ _ rfl
  have z4 := one hg4 hv4 hd4 _ _ rfl
  have z5 := one hg5 hv5 hd5 _ _ rfl
  have inrow : ∀ {g n : Nat}, 0 < n → MemPlace.cell g 0 ∈ MemPlace.row ⟨g, 0, none⟩ n := fun {g n} hn => by
    simp [MemPlace.row]
    omega
  obtain ⟨a1, k1, rfl, s1⟩ := sent_of hg1 hv1 hd1 (hrows _ 0 (by simp only [List.mem_append]; exact .inr (.inl (.inl (inrow z1))))).2
  obtain ⟨a2, k2, rfl, s2⟩ := sent_of hg2 hv2 hd2 (hrows _ 0 (by simp only [List.mem_append]; exact .inr (.inr (.inl (.inl (inrow z2)))))).2
  obtain ⟨a3, k3, rfl, s3⟩ := sent_of hg3 hv3 hd3 (hrows _ 0 (by simp only [List.mem_append]; exact .inr (.inr (.inr (.inl (.inl (inrow z3))))))).2
  obtain ⟨a4, k4, rfl, s4⟩ := sent_of hg4 hv4 hd4 (hrows _ 0 (by simp only [List.mem_append]; exact .inr (.inr (.inr (.inr (.inl (.inl (inrow z4)))))))).2
  obtain ⟨a5, k5, rfl, s5⟩ := sent_of hg5 hv5 hd5 (hrows _ 0 (by simp only [List.mem_append]; exact .inr (.inr (.inr (.inr (.inr (.inl (.inl (inrow z5))))))))).2
  have rowa : ∀ a : Addr, MemPlace.cell a.block a.off ∈ MemPlace.row a 1 := fun a => by simp [MemPlace.row, Addr.add]
  have b1 := (hrows a1.block a1.off (by simp only [List.mem_append]; exact .inr (.inl (.inr (rowa a1))))).1
  have b2 := (hrows a2.block a2.off (by simp only [List.mem_append]; exact .inr (.inr (.inl (.inr (rowa a2)))))).1
  have b3 := (hrows a3.block a3.off (by simp only [List.mem_append]; exact .inr (.inr (.inr (.inl (.inr (rowa a3))))))).1
  have b4 := (hrows a4.block a4.off (by simp only [List.mem_append]; exact .inr (.inr (.inr (.inr (.inl (.inr (rowa a4)))))))).1
  have b5 := (hrows a5.block a5.off (by simp only [List.mem_append]; exact .inr (.inr (.inr (.inr (.inr (.inl (.inr (rowa a5))))))))).1
  refine ⟨⟨a1, a2, a3, a4, a5⟩, ⟨hh, handle_of_laid h2, k1, k2, k3, k4, k5, ?_, ?_⟩⟩
  · intro a ha
    simp only [Sent.all, List.mem_cons, List.not_mem_nil, or_false] at ha
    rcases ha with rfl | rfl | rfl | rfl | rfl
    · exact b1
    · exact b2
    · exact b3
    · exact b4
    · exact b5
  · obtain ⟨_, m1, _⟩ := List.nodup_append.1 hnd
    obtain ⟨_, m2, d1⟩ := List.nodup_append.1 m1
    obtain ⟨_, m3, d2⟩ := List.nodup_append.1 m2
    obtain ⟨_, m4, d3⟩ := List.nodup_append.1 m3
    obtain ⟨_, m5, d4⟩ := List.nodup_append.1 m4
    have q : ∀ {L : List MemPlace} (a : Addr), MemPlace.cell a.block a.off ∈ L ++ MemPlace.row a 1 := fun a => List.mem_append.2 (.inr (rowa a))
    have f12 : a1 ≠ a2 := fun e => d1 _ (q a1) _ (List.mem_append.2 (.inl (q a2))) (by rw [e])
    have f13 : a1 ≠ a3 := fun e => d1 _ (q a1) _ (List.mem_append.2 (.inr (List.mem_append.2 (.inl (q a3))))) (by rw [e])
    have f14 : a1 ≠ a4 := fun e => d1 _ (q a1) _ (List.mem_append.2 (.inr (List.mem_append.2 (.inr (List.mem_append.2 (.inl (q a4))))))) (by rw [e])
    have f15 : a1 ≠ a5 := fun e => d1 _ (q a1) _ (List.mem_append.2 (.inr (List.mem_append.2 (.inr (List.mem_append.2 (.inr (List.mem_append.2 (.inl (q a5))))))))) (by rw [e])
    have f23 : a2 ≠ a3 := fun e => d2 _ (q a2) _ (List.mem_append.2 (.inl (q a3))) (by rw [e])
    have f24 : a2 ≠ a4 := fun e => d2 _ (q a2) _ (List.mem_append.2 (.inr (List.mem_append.2 (.inl (q a4))))) (by rw [e])
    have f25 : a2 ≠ a5 := fun e => d2 _ (q a2) _ (List.mem_append.2 (.inr (List.mem_append.2 (.inr (List.mem_append.2 (.inl (q a5))))))) (by rw [e])
    have f34 : a3 ≠ a4 := fun e => d3 _ (q a3) _ (List.mem_append.2 (.inl (q a4))) (by rw [e])
    have f35 : a3 ≠ a5 := fun e => d3 _ (q a3) _ (List.mem_append.2 (.inr (List.mem_append.2 (.inl (q a5))))) (by rw [e])
    have f45 : a4 ≠ a5 := fun e => d4 _ (q a4) _ (List.mem_append.2 (.inl (q a5))) (by rw [e])
    simp [Sent.all, f12, f13, f14, f15, f23, f24, f25, f34, f35, f45]
end Go.Proofs.YtdhgebdbiehchaaGreatDoor
