/- The statement's step, where a disk is called. The statement's given and plays: every step is answered alike, in every order. The statement's made: one disk more. The contract of the document's store: File. -/
import Derived.Test.YtdhgebdbiehchaaGreatDoorB43
import Derived.Test.YtdhgebdbiehchaaGreatDoorB41
import Derived.Test.YtdhgebdbiehchaaGreatDoorB42
namespace Go.Proofs.YtdhgebdbiehchaaGreatDoor
open Go.RowKit Go.Maps
set_option linter.unusedSimpArgs false
set_option linter.unusedVariables false

/-- A step is answered alike, and all is kept. -/
def Steps (m : Bool) (o : OpV) : Prop := ∀ (E : Sent) (n bw nd c : Nat) (Fr : Nat → Prop) (w : World), Inv E n bw m nd c Fr w → nd ≤ 1353245081000 → c ≤ 1353245081000 → HalvesAt w →
  Calls Tryz.prog 33 #[.pointer (some ⟨bw, 0, none⟩), o.val] w fun e w' => e = .returned (.bool true) ∧ (∃ nd' c', nd' ≤ nd + 1 ∧ c' ≤ c + 1 ∧ (o.kind = 10 → nd' = nd ∧ c' = c) ∧ Inv E n bw m nd' c' Fr w') ∧ Chg (Mv n Fr) w w'
def pickN (k : Int) (n : Nat) : Nat := if k < 0 ∨ (n : Int) ≤ k then 0 else k.toNat
theorem pickN_lt {k : Int} {n : Nat} (h : 0 < n) : pickN k n < n := by unfold pickN; split <;> omega
theorem pick_any (k : Int) (n : Nat) (w : World) : Calls Tryz.prog 66 #[.int .i64 k, .int .i64 (n : Int)] w fun e w' => e = .returned (.int .i64 (pickN k n : Int)) ∧ w' = w := by
  by_cases h0 : k < 0
  · have e : pickN k n = 0 := by unfold pickN; rw [if_pos (.inl h0)]
    rw [e]
    go_enter Tryz.func66, Tryz.ntmps66
    go_wp2
    go_ret
    exact ⟨rfl, rfl⟩
  · by_cases h1 : (n : Int) ≤ k
    · have e : pickN k n = 0 := by unfold pickN; rw [if_pos (.inr h1)]
      rw [e]
      go_enter Tryz.func66, Tryz.ntmps66
      go_wp2
      go_ret
      exact ⟨rfl, rfl⟩
    · have e : (pickN k n : Int) = k := by unfold pickN; rw [if_neg (by omega)]; omega
      rw [e]
      go_enter Tryz.func66, Tryz.ntmps66
      go_wp2
      go_ret
      exact ⟨rfl, rfl⟩
theorem chg_mv {n : Nat} {Fr : Nat → Prop} {w w1 w2 : World} (hb : Below w.heap.size w w1) (h : Chg (Mv n Fr) w1 w2) : Chg (Mv n Fr) w w2 := (Chg.of_below hb).trans (h.mono (fun k _ hk => .inl hk))
set_option maxRecDepth 100000 in
set_option maxHeartbeats 3200000 in
theorem step_does (m : Bool) (o : OpV) (h6 : 6 ≤ o.kind) (h16 : o.kind ≤ 16) (hD : Does m o) : Steps m o := by
  intro E n bw nd c Fr w hI hnd hcb hH
  have HI : Hid (Inv E n bw m nd c Fr w) := hI
  obtain ⟨κ, ds, P, ls, h1, h2, h3, h4, h5, h6', h7⟩ := hI
  have cb0 : w.cell? ⟨bw, 0, none⟩ = some P.pv := h1.box.cell (j := 0) rfl
  have hbl := h1.box.lt
  obtain ⟨a, cp, hv⟩ := own_len h1.row
  by_cases hz : ds.length = 0
  · rw [hv, hz] at cb0
    have cb0' : w.cell? ⟨bw, 0, none⟩ = some (.slice a 0 cp) := cb0
    obtain ⟨kind, at', x, y, s, t, u, c0, c1, c2⟩ := o
    dsimp only at h6 h16
    clear h1 h2 h3 h4 h5 h6' h7 hv cb0 hz hD hH
    unfold OpV.val
    dsimp only
    go_enter Tryz.func33, Tryz.ntmps33
    go_wp2
    go_ret
    refine ⟨rfl, ⟨nd, c, by omega, by omega, fun _ => ⟨rfl, rfl⟩, ?_⟩, ?_⟩
    · exact HI.out.below ((Below.refl _ _).alloc (Nat.le_refl _) _)
    · exact Chg.of_below ((Below.refl _ _).alloc (Nat.le_refl _) _)
  · have hpos : 0 < ds.length := by omega
    obtain ⟨g, cap, hv2, _, hgl, hgc⟩ := own_cellsN h1.row hpos
    rw [hv2] at cb0
    have hjl : pickN o.at' ds.length < ds.length := pickN_lt hpos
    obtain ⟨dd, hdd⟩ : ∃ d, ds[pickN o.at' ds.length]? = some d := ⟨_, List.getElem?_eq_getElem hjl⟩
    obtain ⟨p, hpp⟩ : ∃ p, P.ps[pickN o.at' ds.length]? = some p := ⟨_, List.getElem?_eq_getElem (by rw [h1.len]; exact hjl)⟩
    have cg : w.cell? ⟨g, pickN o.at' ds.length, none⟩ = some (.pointer (some ⟨p.1, 0, none⟩)) := by
      rw [hgc _ (by omega), List.getElem?_map, hpp]; rfl
    have hda : dd = (dd.1, dd.1) := by have := (h3 dd (List.mem_of_getElem? hdd)).1; obtain ⟨x, y⟩ := dd; simp at this ⊢; exact this.symm
    rw [hda] at hdd
    have hWB : Below w.heap.size w (w.alloc (.cells (opC o) 68)) := (Below.refl _ _).alloc (Nat.le_refl _) _
    have hob : ∀ w1 : World, w1.heap[w.heap.size]? = (w.alloc (.cells (opC o) 68)).heap[w.heap.size]? → Bx w1 w.heap.size (opC o) 68 := fun w1 e => e.trans (bx_new w _ _ rfl)
    have HSO : Hid (∀ w1 : World, w1.cell? ⟨bw, 0, none⟩ = w.cell? ⟨bw, 0, none⟩ → w1.heap[g]? = w.heap[g]? → w1.heap[w.heap.size]? = (w.alloc (.cells (opC o) 68)).heap[w.heap.size]? →
        (w1.cell? ⟨bw, 0, none⟩ = some (.slice (some ⟨g, 0, none⟩) ds.length cap) ∧ w1.cell? ⟨g, pickN o.at' ds.length, none⟩ = some (.pointer (some ⟨p.1, 0, none⟩))) ∧ (w1.cell? ⟨w.heap.size, 0, none⟩ = some (.int .i64 o.kind) ∧ w1.cell? ⟨w.heap.size, 1, none⟩ = some (.int .i64 o.at') ∧ w1.cell? ⟨w.heap.size, 2, none⟩ = some (.int .i64 o.x) ∧ w1.cell? ⟨w.heap.size, 3, none⟩ = some (.int .i64 o.y) ∧ w1.cell? ⟨w.heap.size, 4, none⟩ = some (.string o.s) ∧ w1.cell? ⟨w.heap.size, 5, none⟩ = some (.string o.t) ∧ w1.cell? ⟨w.heap.size, 6, none⟩ = some (.string o.u) ∧ w1.cell? ⟨w.heap.size, 7, none⟩ = some (.int .i64 o.c0) ∧ w1.cell? ⟨w.heap.size, 8, none⟩ = some (.int .i64 o.c1) ∧ w1.cell? ⟨w.heap.size, 9, none⟩ = some (.int .i64 o.c2))) := fun w1 e1 e2 e3 => by
      have hx := hob w1 e3
      refine ⟨⟨e1.trans cb0, ?_⟩, hx.cell (j := 0) rfl, hx.cell (j := 1) rfl, hx.cell (j := 2) rfl, hx.cell (j := 3) rfl, hx.cell (j := 4) rfl, hx.cell (j := 5) rfl, hx.cell (j := 6) rfl, hx.cell (j := 7) rfl, hx.cell (j := 8) rfl, hx.cell (j := 9) rfl⟩
      rw [← cg]
      unfold World.cell?
      rw [e2]
    have HS0 := HSO.out (w.alloc (.cells (opC o) 68)) (hWB.cell (p := ⟨bw, 0, none⟩) hbl) (hWB.block g hgl) rfl
    have HDO : Hid (∀ w1 : World, Below (w.alloc (.cells (opC o) 68)).heap.size (w.alloc (.cells (opC o) 68)) w1 → Calls Tryz.prog 65 #[.pointer (some ⟨bw, 0, none⟩), .pointer (some ⟨p.1, 0, none⟩), o.val] w1 fun e w' => e = .returned (.bool true) ∧ (w'.cell? ⟨bw, 0, none⟩ = w.cell? ⟨bw, 0, none⟩ ∧ w'.heap[g]? = w.heap[g]? ∧ w'.heap[w.heap.size]? = (w.alloc (.cells (opC o) 68)).heap[w.heap.size]?) ∧ (∃ nd' c', nd' ≤ nd + 1 ∧ c' ≤ c + 1 ∧ (o.kind = 10 → nd' = nd ∧ c' = c) ∧ Inv E n bw m nd' c' Fr w') ∧ Chg (Mv n Fr) w w') := fun w1 hb1 => by
      have hz1 : w.heap.size < w1.heap.size := by have := hb1.size; simp at this; omega
      have hb : Below w.heap.size w w1 := hWB.trans (hb1.mono (by simp))
      have hobx : w1.heap[w.heap.size]? = (w.alloc (.cells (opC o) 68)).heap[w.heap.size]? := hb1.block _ (by simp)
      refine (hD E n bw nd c (fun k => Fr k ∨ k = w.heap.size) w1 κ ds P ls _ dd.1 p (h1.below hb) (h2.below (hb.mono h2.le)) h3 h4 h5 h6' (fun k hk => ?_) hcb hdd hpp).mono ?_
      · rcases hk with hk | hk
        · exact ⟨(h7 k hk).1, Nat.lt_of_lt_of_le (h7 k hk).2 hb.size⟩
        · exact ⟨h1.out k (by omega), by omega⟩
      · rintro e w' ⟨rfl, ⟨c', a1, a2, a3⟩, a4, a5, a6⟩
        refine ⟨rfl, ⟨a5.trans (hb.cell (p := ⟨bw, 0, none⟩) hbl), (a6 g (by rw [hv2]; rfl)).trans (hb.block g hgl), (a4.keep _ hz1 (fun h => h.2 (.inr rfl))).trans hobx⟩, ⟨nd, c', by omega, a1, fun e => ⟨rfl, a2 e⟩, ?_⟩, chg_mv hb (a4.mono (fun k _ hk => ⟨hk.1, fun hf => hk.2 (.inl hf)⟩))⟩
        obtain ⟨κ', ds', P', ls', b1, b2, b3, b4, b5, b6, b7⟩ := a3
        exact ⟨κ', ds', P', ls', b1, b2, b3, b4, b5, b6, fun k hk => b7 k (.inl hk)⟩
    have hposI : (0 : Int) < (ds.length : Int) := by omega
    have hjI : (pickN o.at' ds.length : Int) < (ds.length : Int) := by omega
    have HPK : Hid (∀ wx : World, Calls Tryz.prog 66 #[.int .i64 o.at', .int .i64 (ds.length : Int)] wx fun e w' => e = .returned (.int .i64 (pickN o.at' ds.length : Int)) ∧ w' = wx) := fun wx => pick_any _ _ wx
    clear h1 h2 h3 h4 h5 h6' h7 hD hH hv hda hdd hpp hgc HI hz hob hWB
    have HS0h : Hid ((_ ∧ _) ∧ _) := HS0
    clear HS0
    generalize pickN o.at' ds.length = jj at *
    generalize ds.length = nn at *
    obtain ⟨kind, at', x, y, s, t, u, c0, c1, c2⟩ := o
    dsimp only at h6 h16
    unfold OpV.val at HDO ⊢
    dsimp only at HDO HPK HSO HS0h ⊢
    go_enter Tryz.func33, Tryz.ntmps33
    go_wp2_with fail
    go_region_held3 (fun w1 => (w1.cell? ⟨bw, 0, none⟩ = some (.slice (some ⟨g, 0, none⟩) nn cap) ∧ w1.cell? ⟨g, jj, none⟩ = some (.pointer (some ⟨p.1, 0, none⟩))) ∧ (w1.cell? ⟨w.heap.size, 0, none⟩ = some (.int .i64 kind) ∧ w1.cell? ⟨w.heap.size, 1, none⟩ = some (.int .i64 at') ∧ w1.cell? ⟨w.heap.size, 2, none⟩ = some (.int .i64 x) ∧ w1.cell? ⟨w.heap.size, 3, none⟩ = some (.int .i64 y) ∧ w1.cell? ⟨w.heap.size, 4, none⟩ = some (.string s) ∧ w1.cell? ⟨w.heap.size, 5, none⟩ = some (.string t) ∧ w1.cell? ⟨w.heap.size, 6, none⟩ = some (.string u) ∧ w1.cell? ⟨w.heap.size, 7, none⟩ = some (.int .i64 c0) ∧ w1.cell? ⟨w.heap.size, 8, none⟩ = some (.int .i64 c1) ∧ w1.cell? ⟨w.heap.size, 9, none⟩ = some (.int .i64 c2))) (first | (exact HS0h.out) | (assumption)) (first | (go_at_call 66; refine (HPK.out _).mono ?_; rintro e w' ⟨rfl, rfl⟩) | (go_at_call 65; refine (HDO.out _ ?_).mono ?_; exact (Below.refl _ _).drew; rintro e w2 ⟨rfl, ⟨f1, f2, f3⟩, hi, hc⟩; have hS2 := HSO.out w2 f1 f2 f3; have HI2 : Hid _ := hi; have HC2 : Hid _ := hc; clear hi hc f1 f2 f3))
    all_goals
      clear hS2
      go_wp2
      go_ret
      exact ⟨rfl, HI2.out, HC2.out⟩
end Go.Proofs.YtdhgebdbiehchaaGreatDoor
namespace Go.Proofs.YtdhgebdbiehchaaGreatDoor
open Go.RowKit Go.Maps
set_option linter.unusedSimpArgs false
set_option linter.unusedVariables false

theorem Chg.mvBelow {n : Nat} {Fr : Nat → Prop} {w w' : World} (h : Chg (Mv n Fr) w w') (hn : n ≤ w.heap.size) : Below n w w' := h.below hn (fun k hk => hk.1)
theorem mv_trans {n : Nat} {Fr : Nat → Prop} {w w1 w2 : World} (h : Chg (Mv n Fr) w w1) (k : Chg (Mv n Fr) w1 w2) : Chg (Mv n Fr) w w2 := h.trans (k.mono (fun k _ hk => .inl hk))
theorem Inv.le {E : Sent} {n bw nd c : Nat} {m : Bool} {Fr : Nat → Prop} {W : World} (h : Inv E n bw m nd c Fr W) : n ≤ W.heap.size := by
  obtain ⟨κ, ds, P, ls, h1, h2, h3, h4, h5, h6, h7⟩ := h
  exact h2.le
theorem Inv.pv {E : Sent} {n bw nd c : Nat} {m : Bool} {Fr : Nat → Prop} {W : World} (h : Inv E n bw m nd c Fr W) : ∃ a cp, W.cell? ⟨bw, 0, none⟩ = some (.slice a nd cp) := by
  obtain ⟨κ, ds, P, ls, h1, h2, h3, h4, h5, h6, h7⟩ := h
  obtain ⟨a, cp, hv⟩ := own_len h1.row
  have c0 : W.cell? ⟨bw, 0, none⟩ = some P.pv := h1.box.cell (j := 0) rfl
  rw [hv, h5] at c0
  exact ⟨a, cp, c0⟩
set_option maxRecDepth 100000 in
set_option maxHeartbeats 1600000 in
theorem given_all (m : Bool) (E : Sent) (n bw : Nat) (lo hi : Int) (w : World) (hI : Inv E n bw m 0 0 (fun _ => False) w) (HS : ∀ o : OpV, lo ≤ o.kind → o.kind ≤ hi → o.sized → Steps m o) (hH : ∀ w', Below n w w' → HalvesAt w') :
    Calls Tryz.prog 32 #[.pointer (some ⟨bw, 0, none⟩), .int .i64 lo, .int .i64 hi] w fun e w' => e = .returned (.bool true) ∧ (∃ nd c, nd ≤ 10 ∧ c ≤ 10 ∧ Inv E n bw m nd c (fun _ => False) w') ∧ Below n w w' := by
  have hnw := hI.le
  have HI : Hid (Inv E n bw m 0 0 (fun _ => False) w) := hI
  have HSh : Hid (∀ o : OpV, lo ≤ o.kind → o.kind ≤ hi → o.sized → Steps m o) := HS
  have HH : Hid (∀ w', Below n w w' → HalvesAt w') := hH
  clear hI HS hH
  go_enter Tryz.func32, Tryz.ntmps32
  go_wp2_with fail
  refine (head_any 100 7 32 _ (by omega) (by omega) (by omega) (by omega) (by omega) (by omega)).mono ?_
  rintro e w1 ⟨rfl, hb1⟩
  obtain ⟨hd, hhd⟩ : ∃ t, t = S (sealL ([76, 71] ++ lowL (100 : Int).toNat 2 ++ lowL (7 : Int).toNat 4 ++ lowL (32 : Int).toNat 2)) := ⟨_, rfl⟩
  have z1 : hd.size ≤ 100 := by rw [hhd, S_size, sealL_length]; simp [lowL_length]
  rw [← hhd]
  clear hhd
  go_wp2_with fail
  refine (block_any w1.heap.size 1 [(true, ⟨#[97]⟩, ⟨#[120]⟩)] _ (by simp) ?_ (by simp) ?_).mono ?_
  · intro i hi
    match i, hi with
    | 0, _ => simp
  · intro e he
    simp at he
    subst he
    exact ⟨by decide, by decide⟩
  rintro e w2 ⟨rfl, hb2⟩
  obtain ⟨bl, hbl⟩ : ∃ t, t = S (blockL [(true, ⟨#[97]⟩, ⟨#[120]⟩)]) := ⟨_, rfl⟩
  have z2 : bl.size ≤ 100 := by
    rw [hbl, S_size]; decide +kernel
  rw [← hbl]
  clear hbl
  have hb12 : Below w.heap.size w w2 := hb1.trans ((((Below.refl w1.heap.size w1).alloc (Nat.le_refl _) _).trans (hb2.mono (by simp))).mono hb1.size)
  clear hb1 hb2
  have q1 : ¬ 9223372036854775807 < hd.size + bl.size := by omega
  have hbz := hb12.size
  have HW2 : Hid (∀ o : Obj, Inv E n bw m 0 0 (fun k => k = w2.heap.size) (w2.alloc o) ∧ Below n w (w2.alloc o)) := fun o => ⟨HI.out.hold (hb12.alloc hbz o) hbz (by simp), (hb12.alloc hbz o).mono hnw⟩
  go_wp2
  go_loopw [9] (fun i wr => ∃ (k nd c : Nat), k ≤ 10 ∧ i = .int .i64 k ∧ nd ≤ k ∧ c ≤ k ∧ (∀ j (hj : j < 10), OpAt wr w2.heap.size (j * 10) ((givenOps (hd ++ bl))[j]'hj)) ∧ Inv E n bw m nd c (fun k => k = w2.heap.size) wr ∧ Below n w wr) (fun i _ => 10 - (intOf i).toNat)
  case atStart => exact ⟨0, 0, 0, by omega, rfl, Nat.le_refl _, Nat.le_refl _, given_lit w2 (hd ++ bl) _, (HW2.out _).1, (HW2.out _).2⟩
  case round =>
    obtain ⟨k, nd, c, hk, rfl, hnd, hc, hops, hIr, hb⟩ := hrel
    have HIr : Hid (Inv E n bw m nd c (fun k => k = w2.heap.size) wr) := hIr
    have hz2 : w2.heap.size < wr.heap.size := by
      obtain ⟨κ, ds, P, ls, a1, a2, a3, a4, a5, a6, a7⟩ := hIr
      exact (a7 _ rfl).2
    have HB : Hid (Below n w wr) := hb
    have hnr := hIr.le
    clear hIr hb
    by_cases hlt : k < 10
    · have hop := hops k hlt
      have hsz : ((givenOps (hd ++ bl))[k]'hlt).sized := given_sized (by simp; omega) _ (List.getElem_mem _)
      have hrd := HSh.out ((givenOps (hd ++ bl))[k]'hlt)
      have HO : Hid (∀ j (hj : j < 10), OpAt wr w2.heap.size (j * 10) ((givenOps (hd ++ bl))[j]'hj)) := hops
      clear hops
      generalize (givenOps (hd ++ bl))[k]'hlt = o at *
      by_cases hk1 : lo ≤ o.kind ∧ o.kind ≤ hi
      · obtain ⟨hka, hkb⟩ := hk1
        have HST : Hid (Calls Tryz.prog 33 #[.pointer (some ⟨bw, 0, none⟩), o.val] wr fun e w' => e = .returned (.bool true) ∧ (∃ nd' c', nd' ≤ nd + 1 ∧ c' ≤ c + 1 ∧ Inv E n bw m nd' c' (fun k => k = w2.heap.size) w') ∧ Chg (Mv n (fun k => k = w2.heap.size)) wr w') :=
          (hrd hka hkb hsz E n bw nd c _ wr HIr.out (by omega) (by omega) (HH.out _ HB.out)).mono fun e w' ⟨a1, ⟨nd', c', a2, a3, _, a4⟩, a5⟩ => ⟨a1, ⟨nd', c', a2, a3, a4⟩, a5⟩
        clear hrd
        obtain ⟨kind, at', x, y, s, t, u, c0, c1, c2⟩ := o
        obtain ⟨h0, h1', h2, h3, h4', h5, h6, h7, h8, h9⟩ := hop
        unfold OpV.val at HST
        dsimp only at *
        go_wp2_with fail
        refine HST.out.mono ?_
        rintro e w3 ⟨rfl, ⟨nd', c', b1, b2, b3⟩, b4⟩
        have HI3 : Hid (Inv E n bw m nd' c' (fun k => k = w2.heap.size) w3) := b3
        have HC3 : Hid (Chg (Mv n (fun k => k = w2.heap.size)) wr w3) := b4
        clear h0 h1' h2 h3 h4' h5 h6 h7 h8 h9 b3 b4
        go_wp2
        go_roundw
        case rel =>
          refine ⟨k + 1, nd', c', by omega, by go_num, by omega, by omega, fun j hj => ?_, HI3.out, HB.out.trans (HC3.out.mvBelow hnr)⟩
          have hkeep := HC3.out.keep w2.heap.size hz2 (fun h => h.2 rfl)
          have hcell : ∀ i, w3.cell? ⟨w2.heap.size, i, none⟩ = wr.cell? ⟨w2.heap.size, i, none⟩ := fun i => by unfold World.cell?; rw [hkeep]
          have := HO.out j hj
          unfold OpAt at this ⊢
          simp only [hcell]
          exact this
        case measure => simp [intOf]; omega
      · clear hrd
        obtain ⟨kind, at', x, y, s, t, u, c0, c1, c2⟩ := o
        obtain ⟨h0, h1', h2, h3, h4', h5, h6, h7, h8, h9⟩ := hop
        dsimp only at *
        rcases (show kind < lo ∨ (lo ≤ kind ∧ hi < kind) from by omega) with hka | ⟨hka, hkb⟩
        all_goals
          clear hk1
          go_wp2
          go_roundw
          case rel => exact ⟨k + 1, nd, c, by omega, by go_num, by omega, by omega, HO.out, HIr.out, HB.out⟩
          case measure => simp [intOf]; omega
    · clear hops
      go_wp2
      go_ret
      exact ⟨rfl, ⟨nd, c, by omega, by omega, HIr.out.drop⟩, HB.out⟩
theorem looks_none (bw : Nat) (w : World) {a : Option Addr} {cp : Nat} (h : w.cell? ⟨bw, 1, none⟩ = some (.slice a 0 cp)) :
    Calls Tryz.prog 34 #[.pointer (some ⟨bw, 0, none⟩)] w fun e w' => e = .returned (.bool true) ∧ Below w.heap.size w w' := by
  go_enter Tryz.func34, Tryz.ntmps34
  go_wp2
  refine wp_loop_rounds 1 ?_
  rw [rounds_succ]
  go_wp2
  go_ret
  exact ⟨rfl, Below.refl _ _⟩
/-- The lists that came out read as they were written. -/
def Looks (m : Bool) : Prop := ∀ (E : Sent) (n bw nd c : Nat) (Fr : Nat → Prop) (w : World), Inv E n bw m nd c Fr w → Calls Tryz.prog 34 #[.pointer (some ⟨bw, 0, none⟩)] w fun e w' => e = .returned (.bool true) ∧ Below w.heap.size w w'
theorem looks_false : Looks false := fun E n bw nd c Fr w h => by
  obtain ⟨κ, ds, P, ls, h1, h2, h3, h4, h5, h6, h7⟩ := h
  have hl := h4 rfl
  subst hl
  have c1 : w.cell? ⟨bw, 1, none⟩ = some P.isv := h1.box.cell (j := 1) rfl
  obtain ⟨a, cp, hv⟩ := own_len h1.marks.is
  rw [hv] at c1
  exact looks_none bw w c1
theorem inv_new {E : Sent} {w : World} (m : Bool) (hE : Env w E) : Inv E w.heap.size w.heap.size m 0 0 (fun _ => False) (w.alloc (.cells #[.slice none 0 0, .slice none 0 0, .slice none 0 0, .int .i64 0] 65)) := by
  refine ⟨fun k => if k = w.heap.size then 0 else 1, [], ⟨.slice none 0 0, [], .slice none 0 0, .slice none 0 0, 0⟩, [], ⟨bx_new _ _ _ rfl, ⟨by simp, Nat.le_refl _, by simp⟩, World.ownsRow_nil _ _ _ _, rfl, fun g e => (by cases e), fun j d p hd => (by simp at hd), ⟨World.ownsRow_nil _ _ _ _, World.ownsRow_nil _ _ _ _, fun g e => (by cases e), fun g e => (by cases e), fun mk hm => (by cases hm)⟩, fun k hk => ?_⟩, ⟨w, rfl, hE, (Below.refl _ _).alloc (Nat.le_refl _) _⟩, fun d hd => (by cases hd), fun _ => rfl, rfl, by simp, fun k hk => hk.elim⟩
  have : w.heap.size < k := by simp at hk; omega
  show (if k = w.heap.size then 0 else 1) = 1
  rw [if_neg (by omega)]
set_option maxRecDepth 100000 in
set_option maxHeartbeats 3200000 in
theorem plays_all (m : Bool) (E : Sent) (a : Option Addr) (L : List OpV) (cap : Nat) (lo hi : Int) (w : World) (hlo : lo ≤ 10) (hhi : 10 ≤ hi) (HS : ∀ o : OpV, lo ≤ o.kind → o.kind ≤ hi → o.sized → Steps m o) (HLK : Looks m) (hS : ScriptAt w a L) (hL : ∀ o ∈ L, o.sized) (hn : L.length ≤ 1353245080300) (hH : HalvesAt w) (hE : Env w E) :
    Calls Tryz.prog 12 #[.slice a L.length cap, .int .i64 lo, .int .i64 hi] w fun e w' => e = .returned (.bool true) ∧ Below w.heap.size w w' := by
  have HHA : Hid (∀ w', Below w.heap.size w w' → HalvesAt w') := fun w' hb => hH.below hb hH.1
  have HI0 : Hid (Inv E w.heap.size w.heap.size m 0 0 (fun _ => False) (w.alloc (.cells #[.slice none 0 0, .slice none 0 0, .slice none 0 0, .int .i64 0] 65))) := inv_new m hE
  have hB0 : Below w.heap.size w (w.alloc (.cells #[.slice none 0 0, .slice none 0 0, .slice none 0 0, .int .i64 0] 65)) := (Below.refl _ _).alloc (Nat.le_refl _) _
  have HGV := given_all m E w.heap.size w.heap.size lo hi _ HI0.out HS (fun w' hb => HHA.out w' (hB0.trans hb))
  have HB0 : Hid (Below w.heap.size w (w.alloc (.cells #[.slice none 0 0, .slice none 0 0, .slice none 0 0, .int .i64 0] 65))) := hB0
  have HSh : Hid (∀ o : OpV, lo ≤ o.kind → o.kind ≤ hi → o.sized → Steps m o) := HS
  have HLh : Hid (Looks m) := HLK
  clear hH hE hB0 HS HLK
  go_enter Tryz.func12, Tryz.ntmps12
  go_wp2_with fail
  refine HGV.mono ?_
  rintro e w1 ⟨rfl, ⟨nd1, c1, b1, b2, b3⟩, b4⟩
  have HI1 : Hid (Inv E w.heap.size w.heap.size m nd1 c1 (fun _ => False) w1) := b3
  have HB1 : Hid (Below w.heap.size w w1) := HB0.out.trans b4
  clear b3 b4
  go_wp2
  go_loopw [9] (fun i wr => ∃ (k nd c : Nat), k ≤ L.length ∧ i = .int .i64 k ∧ nd ≤ k + 10 ∧ c ≤ k + 10 ∧ Inv E w.heap.size w.heap.size m nd c (fun _ => False) wr ∧ Below w.heap.size w wr) (fun i _ => L.length - (intOf i).toNat)
  case atStart => exact ⟨0, nd1, c1, by omega, rfl, by omega, by omega, HI1.out, HB1.out⟩
  case round =>
    obtain ⟨k, nd, c, hk, rfl, hnd, hc, hIr, hb⟩ := hrel
    have HIr : Hid (Inv E w.heap.size w.heap.size m nd c (fun _ => False) wr) := hIr
    have HB : Hid (Below w.heap.size w wr) := hb
    have hnr := hIr.le
    by_cases hlt : k < L.length
    · rcases hS with hS | ⟨b, off, rfl, hbw, hops⟩
      · subst hS; simp at hlt
      have hop := (hops k hlt).below hb hbw
      have hsz := hL L[k] (List.getElem_mem _)
      have hrd := HSh.out L[k]
      clear hops hIr hb
      generalize L[k] = o at *
      by_cases hk1 : lo ≤ o.kind ∧ o.kind ≤ hi
      · obtain ⟨hka, hkb⟩ := hk1
        have HST : Hid (Calls Tryz.prog 33 #[.pointer (some ⟨w.heap.size, 0, none⟩), o.val] wr fun e w' => e = .returned (.bool true) ∧ (∃ nd' c', nd' ≤ nd + 1 ∧ c' ≤ c + 1 ∧ Inv E w.heap.size w.heap.size m nd' c' (fun _ => False) w') ∧ Chg (Mv w.heap.size (fun _ => False)) wr w') :=
          (hrd hka hkb hsz E _ _ nd c _ wr HIr.out (by omega) (by omega) (HHA.out _ HB.out)).mono fun e w' ⟨a1, ⟨nd', c', a2, a3, _, a4⟩, a5⟩ => ⟨a1, ⟨nd', c', a2, a3, a4⟩, a5⟩
        clear hrd
        obtain ⟨kind, at', x, y, s, t, u, c0, c1, c2⟩ := o
        obtain ⟨g0, g1, g2, g3, g4, g5, g6, g7, g8, g9⟩ := hop
        unfold OpV.val at HST
        dsimp only at *
        go_wp2_with fail
        refine HST.out.mono ?_
        rintro e w3 ⟨rfl, ⟨nd', c', d1, d2, d3⟩, d4⟩
        have HI3 : Hid (Inv E w.heap.size w.heap.size m nd' c' (fun _ => False) w3) := d3
        have HC3 : Hid (Chg (Mv w.heap.size (fun _ => False)) wr w3) := d4
        clear g0 g1 g2 g3 g4 g5 g6 g7 g8 g9 d3 d4
        go_wp2
        go_roundw
        case rel => exact ⟨k + 1, nd', c', by omega, by go_num, by omega, by omega, HI3.out, HB.out.trans (HC3.out.mvBelow hnr)⟩
        case measure => simp [intOf]; omega
      · clear hrd
        obtain ⟨kind, at', x, y, s, t, u, c0, c1, c2⟩ := o
        obtain ⟨g0, g1, g2, g3, g4, g5, g6, g7, g8, g9⟩ := hop
        dsimp only at *
        rcases (show kind < lo ∨ (lo ≤ kind ∧ hi < kind) from by omega) with hka | ⟨hka, hkb⟩
        all_goals
          clear hk1
          go_wp2
          go_roundw
          case rel => exact ⟨k + 1, nd, c, by omega, by go_num, by omega, by omega, HIr.out, HB.out⟩
          case measure => simp [intOf]; omega
    · clear hS hIr hb
      obtain ⟨W1, rfl⟩ : ∃ W1, W1 = wr := ⟨_, rfl⟩
      go_wp2
      go_loopw [10] (fun i wr => ∃ (k2 : Nat), k2 ≤ nd ∧ i = .int .i64 k2 ∧ Inv E w.heap.size w.heap.size m nd c (fun _ => False) wr ∧ Below w.heap.size w wr) (fun i _ => nd - (intOf i).toNat)
      case atStart => exact ⟨0, by omega, rfl, HIr.out, HB.out⟩
      case round =>
        obtain ⟨k2, hk2, rfl, hIr2, hb2⟩ := hrel
        have HI2 : Hid (Inv E w.heap.size w.heap.size m nd c (fun _ => False) wr) := hIr2
        have HB2 : Hid (Below w.heap.size w wr) := hb2
        have hnr2 := hIr2.le
        obtain ⟨pa, pcp, cpv⟩ := hIr2.pv
        clear hIr2 hb2
        by_cases hlt2 : k2 < nd
        · have HW : Hid (∀ o : Obj, Inv E w.heap.size w.heap.size m nd c (fun k => k = wr.heap.size) (wr.alloc o) ∧ Below w.heap.size w (wr.alloc o)) := fun o => ⟨HI2.out.hold ((Below.refl _ _).alloc (Nat.le_refl _) _) (Nat.le_refl _) (by simp), HB2.out.alloc hnr2 o⟩
          obtain ⟨W2, rfl⟩ : ∃ W2, W2 = wr := ⟨_, rfl⟩
          go_wp2
          go_loopw [12] (fun i wr => ∃ (k3 : Nat), k3 ≤ 3 ∧ i = .int .i64 k3 ∧ (∀ j, j < 3 → wr.cell? ⟨W2.heap.size, j, none⟩ = some (.string (S (nm j)))) ∧ Inv E w.heap.size w.heap.size m nd c (fun k => k = W2.heap.size) wr ∧ Below w.heap.size w wr) (fun i _ => 3 - (intOf i).toNat)
          case atStart =>
            refine ⟨0, by omega, rfl, fun j hj => ?_, (HW.out _).1, (HW.out _).2⟩
            refine (World.cell?_alloc_new W2 _ _ j).trans ?_
            match j, hj with
            | 0, _ => rfl
            | 1, _ => rfl
            | 2, _ => rfl
          case round =>
            obtain ⟨k3, hk3, rfl, hnm, hIr3, hb3⟩ := hrel
            have HI3 : Hid (Inv E w.heap.size w.heap.size m nd c (fun k => k = W2.heap.size) wr) := hIr3
            have HB3 : Hid (Below w.heap.size w wr) := hb3
            have hnr3 := hIr3.le
            have hz3 : W2.heap.size < wr.heap.size := by
              obtain ⟨κ, ds, P, ls, a1, a2, a3, a4, a5, a6, a7⟩ := hIr3
              exact (a7 _ rfl).2
            clear hIr3 hb3
            by_cases hlt3 : k3 < 3
            · have cn := hnm k3 hlt3
              have HNM : Hid (∀ j, j < 3 → wr.cell? ⟨W2.heap.size, j, none⟩ = some (.string (S (nm j)))) := hnm
              have hso : OpV.sized ⟨10, k2, 0, 0, S (nm k3), ⟨#[]⟩, ⟨#[]⟩, 0, 0, 0⟩ := by
                have z0 : (⟨#[]⟩ : ByteArray).size = 0 := rfl
                refine ⟨?_, by dsimp only; rw [z0]; omega, by dsimp only; rw [z0]; omega⟩
                dsimp only
                rw [S_size]
                match k3, hlt3 with
                | 0, _ => decide
                | 1, _ => decide
                | 2, _ => decide
              have HST : Hid (Calls Tryz.prog 33 #[.pointer (some ⟨w.heap.size, 0, none⟩), .agg #[.int .i64 10, .int .i64 (k2 : Int), .int .i64 0, .int .i64 0, .string (S (nm k3)), .string ⟨#[]⟩, .string ⟨#[]⟩, .int .i64 0, .int .i64 0, .int .i64 0]] wr fun e w' => e = .returned (.bool true) ∧ Inv E w.heap.size w.heap.size m nd c (fun k => k = W2.heap.size) w' ∧ Chg (Mv w.heap.size (fun k => k = W2.heap.size)) wr w') :=
                (HSh.out ⟨10, k2, 0, 0, S (nm k3), ⟨#[]⟩, ⟨#[]⟩, 0, 0, 0⟩ hlo hhi hso E _ _ nd c _ wr HI3.out (by omega) (by omega) (HHA.out _ HB3.out)).mono fun e w' ⟨a1, ⟨nd', c', a2, a3, a6, a4⟩, a5⟩ => by
                  obtain ⟨rfl, rfl⟩ := a6 rfl
                  exact ⟨a1, a4, a5⟩
              clear hnm hso
              generalize S (nm k3) = nk at *
              go_wp2_with fail
              refine HST.out.mono ?_
              rintro e w3 ⟨rfl, d3, d4⟩
              have HI4 : Hid (Inv E w.heap.size w.heap.size m nd c (fun k => k = W2.heap.size) w3) := d3
              have HC4 : Hid (Chg (Mv w.heap.size (fun k => k = W2.heap.size)) wr w3) := d4
              clear d3 d4 cn
              go_wp2
              go_roundw
              case rel =>
                refine ⟨k3 + 1, by omega, by go_num, fun j hj => ?_, HI4.out, HB3.out.trans (HC4.out.mvBelow hnr3)⟩
                have hkeep := HC4.out.keep W2.heap.size hz3 (fun h => h.2 rfl)
                have hcell : ∀ i, w3.cell? ⟨W2.heap.size, i, none⟩ = wr.cell? ⟨W2.heap.size, i, none⟩ := fun i => by unfold World.cell?; rw [hkeep]
                rw [hcell]
                exact HNM.out j hj
              case measure => simp [intOf]; omega
            · clear hnm
              go_wp2
              go_roundw
              case rel => exact ⟨k2 + 1, by omega, by go_num, HI3.out.drop, HB3.out⟩
              case measure => simp [intOf]; omega
        · have e2 : k2 = nd := by omega
          subst e2
          have HLK := HLh.out E _ _ _ _ _ wr HI2.out
          go_wp2_with fail
          refine HLK.mono ?_
          rintro e w3 ⟨rfl, hb3⟩
          go_wp2
          go_ret
          exact ⟨rfl, HB2.out.trans (hb3.mono hnr2)⟩
end Go.Proofs.YtdhgebdbiehchaaGreatDoor
namespace Go.Proofs.YtdhgebdbiehchaaGreatDoor
open Go.RowKit Go.Maps
set_option linter.unusedSimpArgs false
set_option linter.unusedVariables false

def q0 : RfP := ⟨0, 0, 0, 0, .slice none 0 0⟩
set_option maxHeartbeats 800000 in
theorem rdisk_bad (room : Int) (w : World) (h : room < 0 ∨ 100000 < room) :
    Calls Tryz.prog 117 #[.int .i64 room] w fun e w' => e = .returned (.tuple #[.pointer none, .int .i64 1]) ∧ w' = w := by
  by_cases h0 : room < 0
  · go_enter Tryz.func117, Tryz.ntmps117
    go_wp2
    go_ret2
    exact ⟨rfl, rfl⟩
  · have h1 : 100000 < room := by omega
    go_enter Tryz.func117, Tryz.ntmps117
    go_wp2
    go_ret2
    exact ⟨rfl, rfl⟩
set_option maxHeartbeats 1600000 in
theorem rdisk_good (room : Nat) (w : World) (h : room ≤ 100000) :
    Calls Tryz.prog 117 #[.int .i64 (room : Int)] w fun e w' => e = .returned (.tuple #[.pointer (some ⟨w.heap.size, 0, none⟩), .int .i64 0]) ∧ w' = w.alloc (.cells (refC (dk0 room) q0) 273) := by
  have h0 : ¬ ((room : Int) < 0) := by omega
  have h1 : ¬ ((100000 : Int) < (room : Int)) := by omega
  go_enter Tryz.func117, Tryz.ntmps117
  go_wp2
  go_ret2
  exact ⟨rfl, rfl⟩
theorem ref_new (room : Nat) (w : World) : RefAt (w.alloc (.cells (refC (dk0 room) q0) 273)) (Gnew w (w.alloc (.cells (refC (dk0 room) q0) 273))) w.heap.size (dk0 room) q0 :=
  ⟨bx_new _ _ _ rfl, World.ownsRow_nil _ _ _ _, fun e => (by cases e), fun n k e => (by cases e), by decide, fun b e => (by cases e), ⟨Nat.le_refl _, by simp⟩, fun g e => (by cases e)⟩
theorem info_pair : (Tryz.prog.info? 118).map (fun i => (i.zero, i.size, i.bytes)) = some (some (.pointer none), 1, 8) := by kernel_rfl
def ptrs (ps : List (Nat × Nat × Nat)) : List Value := ps.map fun p => .pointer (some ⟨p.1, 0, none⟩)
theorem app_pair {W : World} {v : Value} {ps : List (Nat × Nat × Nat)} {p : Nat × Nat × Nat} {g0 : Nat} (h1 : W.ownsRow 0 118 1 v ps.length (ptrs ps)) (hg : W.cell? ⟨g0, 0, none⟩ = some (.pointer (some ⟨p.1, 0, none⟩))) (hl : ps.length ≤ 140737488352000 / 8) :
    ∃ g cap w', (Builtin.append_ #[61, 61] 61 #[v, .slice (some ⟨g0, 0, none⟩) 1 1]).run Tryz.prog W = .ok (.slice (some ⟨g, 0, none⟩) (ps.length + 1) cap) w' ∧
      w'.ownsRow 0 118 1 (.slice (some ⟨g, 0, none⟩) (ps.length + 1) cap) (ps.length + 1) (ptrs (ps ++ [p])) ∧ W.grownBy w' v.ownBlock ∧ (v.ownBlock = some g ∨ g = W.heap.size) ∧ g < w'.heap.size := by
  obtain ⟨i0, hi, hz0, hz1, hz2⟩ := info_parts info_pair
  obtain ⟨g, cap, w', a1, a2, a3, a4, a5⟩ := run_append_lies (P := Tryz.prog) W 61 61 0 118 i0 (.pointer none) 1 8 Tryz.underlying61 hi hz0 hz1 hz2 rfl (by decide) v ps.length (ptrs ps) h1 ⟨g0, 0, none⟩ 1 1 [.pointer (some ⟨p.1, 0, none⟩)] rfl (fun j u hu => by cases j with | zero => cases hu; exact hg | succ j => cases hu) (by simp [Value.oneCell']) (by omega) (by unfold maxLen; omega) (by omega) (Nat.zero_le _) _ rfl
  have e : ptrs ps ++ [.pointer (some ⟨p.1, 0, none⟩)] = ptrs (ps ++ [p]) := by simp [ptrs]
  rw [e] at a2
  exact ⟨g, cap, w', a1, a2, a3, a4, a5⟩
theorem own_bx {W : World} {b base e size n : Nat} {cs : Array Value} {t : TypeId} {v : Value} {xs : List Value} (h : Bx W b cs t) (h' : W.ownsRow base e size v n xs) (ht : e ≠ t) : v.ownBlock ≠ some b := by
  rcases own_unlike h h' ht with h1 | h1
  · rw [h1]; simp
  · exact h1
theorem own_rw {w : World} {b1 e1 s1 n1 b2 e2 s2 n2 : Nat} {v1 v2 : Value} {x1 x2 : List Value} (h1 : w.ownsRow b1 e1 s1 v1 n1 x1) (h2 : w.ownsRow b2 e2 s2 v2 n2 x2) (he : e1 ≠ e2) : ∀ g, v1.ownBlock = some g → v2.ownBlock ≠ some g := fun g e1 e2 => by
  rcases own_apart h1 h2 he with h | h
  · rw [h] at e1; cases e1
  · exact h (e1.trans e2.symm)
/-- One pair more. -/
theorem LawAt.pushed {w w1 w2 w4 : World} {κ : Nat → Nat} {n bw : Nat} {ds : List (Dk × Dk)} {P : LawP} {ls : List Mark} {x y g cap : Nat} {d : Dk} {q : StP} {r : RfP} (h : LawAt w κ n bw ds P ls) (hn : n ≤ w.heap.size) (hb1 : Below w.heap.size w w1) (hx : StoreAt w1 (Gnew w w1) x d q) (hb2 : Below w1.heap.size w1 w2) (hy : RefAt w2 (Gnew w1 w2) y d r)
    {t : TypeId} (hg : ((w2.alloc (.cells #[.pointer (some ⟨x, 0, none⟩), .pointer (some ⟨y, 0, none⟩)] 198)).alloc (.cells #[.pointer (some ⟨w2.heap.size, 0, none⟩)] t)).grownBy w4 P.pv.ownBlock)
    (ho : w4.ownsRow 0 118 1 (.slice (some ⟨g, 0, none⟩) (P.ps.length + 1) cap) (P.ps.length + 1) (ptrs (P.ps ++ [(w2.heap.size, x, y)]))) (hat : P.pv.ownBlock = some g ∨ w2.heap.size < g) (hgl : g < w4.heap.size) :
    ∃ κ', LawAt (w4.setCell ⟨bw, 0, none⟩ (.slice (some ⟨g, 0, none⟩) (P.ps.length + 1) cap)) κ' n bw (ds ++ [(d, d)]) ⟨.slice (some ⟨g, 0, none⟩) (P.ps.length + 1) cap, P.ps ++ [(w2.heap.size, x, y)], P.isv, P.imv, P.next⟩ ls ∧ (∀ k, κ k = 1 → k < w.heap.size → κ' k = 1) ∧ Chg (fun k => k = bw ∨ P.pv.ownBlock = some k) w (w4.setCell ⟨bw, 0, none⟩ (.slice (some ⟨g, 0, none⟩) (P.ps.length + 1) cap)) := by
  obtain ⟨w3, hw3⟩ : ∃ w3, w3 = (w2.alloc (.cells #[.pointer (some ⟨x, 0, none⟩), .pointer (some ⟨y, 0, none⟩)] 198)).alloc (.cells #[.pointer (some ⟨w2.heap.size, 0, none⟩)] t) := ⟨_, rfl⟩
  rw [← hw3] at hg
  obtain ⟨w5, hw5⟩ : ∃ w5, w5 = w4.setCell ⟨bw, 0, none⟩ (.slice (some ⟨g, 0, none⟩) (P.ps.length + 1) cap) := ⟨_, rfl⟩
  rw [← hw5]
  have z1 := hb1.size
  have z2 := hb2.size
  have z3 : w3.heap.size = w2.heap.size + 2 := by rw [hw3]; simp
  have z4 := hg.size
  have z5 : w5.heap.size = w4.heap.size := by rw [hw5]; simp
  have hlen := h.len
  have hbw := h.box.lt
  have hb23 : Below w2.heap.size w2 w3 := by rw [hw3]; exact ((Below.refl _ _).alloc (Nat.le_refl _) _).alloc (by simp) _
  have c03 : Chg (fun k => k = bw ∨ P.pv.ownBlock = some k) w w3 := ((Chg.of_below hb1).trans0 hb2).trans0 hb23
  have c04 : Chg (fun k => k = bw ∨ P.pv.ownBlock = some k) w w4 := c03.grown hg (fun k e => .inl (.inr e))
  have c05 : Chg (fun k => k = bw ∨ P.pv.ownBlock = some k) w w5 := by rw [hw5]; exact c04.set bw 0 _ (.inl (.inl rfl))
  have rowlt : ∀ k, P.pv.ownBlock = some k → k < w.heap.size := own_lt h.row
  have c15 : Chg (fun k => k = bw ∨ P.pv.ownBlock = some k) w1 w5 := by
    have a : Chg (fun k => k = bw ∨ P.pv.ownBlock = some k) w1 w4 := ((Chg.of_below hb2).trans0 hb23).grown hg (fun k e => .inl (.inr e))
    rw [hw5]; exact a.set bw 0 _ (.inl (.inl rfl))
  have c25 : Chg (fun k => k = bw ∨ P.pv.ownBlock = some k) w2 w5 := by
    have a : Chg (fun k => k = bw ∨ P.pv.ownBlock = some k) w2 w4 := (Chg.of_below hb23).grown hg (fun k e => .inl (.inr e))
    rw [hw5]; exact a.set bw 0 _ (.inl (.inl rfl))
  obtain ⟨κ', hκ'⟩ : ∃ κ' : Nat → Nat, κ' = fun k => if k < w.heap.size then κ k else if k < w1.heap.size then 2 * ds.length + 2 else if k < w2.heap.size then 2 * ds.length + 3 else if k < w5.heap.size then 0 else κ k := ⟨_, rfl⟩
  have kold : ∀ k, k < w.heap.size → κ' k = κ k := fun k hk => by rw [hκ']; simp only; rw [if_pos hk]
  have knew : ∀ k, w2.heap.size ≤ k → k < w5.heap.size → κ' k = 0 := fun k hk hk2 => by rw [hκ']; simp only; rw [if_neg (by omega), if_neg (by omega), if_neg (by omega), if_pos hk2]
  have hr : ∀ c k, Rg κ n w c k → Rg κ' n w5 c k := fun c k hk => ⟨(kold k hk.2.2).trans hk.1, hk.2.1, by have := hk.2.2; omega⟩
  have np : ∀ k, P.pv.ownBlock = some k → k ≠ bw := fun k e e' => own_bx h.box h.row (by decide) (by rw [← e']; exact e)
  have hbx4 : Bx w4 bw #[P.pv, P.isv, P.imv, .int .i64 P.next] 65 := by
    have a : Bx w3 bw #[P.pv, P.isv, P.imv, .int .i64 P.next] 65 := ((h.box.below hb1 hbw).below hb2 (by omega)).below hb23 (by omega)
    exact (hg.block bw (by omega) (fun e => np bw e.symm rfl)).trans a
  have hgb : g ≠ bw := by
    intro e
    rcases hat with h5 | h5
    · exact np g h5 e
    · omega
  have hpbx : Bx w5 w2.heap.size #[.pointer (some ⟨x, 0, none⟩), .pointer (some ⟨y, 0, none⟩)] 198 := by
    have a : Bx w3 w2.heap.size #[.pointer (some ⟨x, 0, none⟩), .pointer (some ⟨y, 0, none⟩)] 198 := by rw [hw3]; exact (bx_new w2 _ _ rfl).alloc _
    have b : Bx w4 w2.heap.size #[.pointer (some ⟨x, 0, none⟩), .pointer (some ⟨y, 0, none⟩)] 198 := (hg.block w2.heap.size (by omega) (fun e => by have := rowlt _ e.symm; omega)).trans a
    rw [hw5]; exact b.other (by omega) _
  refine ⟨κ', ⟨?_, hr _ _ h.col, ?_, by simp [hlen], ?_, ?_, ?_, ?_⟩, fun k e hk => (kold k hk).trans e, c05⟩
  · rw [hw5]; exact hbx4.setj 0 _
  · rw [List.length_append, hlen]
    show w5.ownsRow _ _ _ _ (ds.length + 1) _
    rw [hw5, ← hlen]
    exact ho.kept (grown_setB _ _ _ _) (.inr fun e => hgb (by simpa [Value.ownBlock] using e))
  · intro k e
    have e' : g = k := by simpa [Value.ownBlock] using e
    subst e'
    rcases hat with h5 | h5
    · exact hr _ _ (h.crow _ h5)
    · exact ⟨knew _ (by omega) (by omega), by omega, by omega⟩
  · intro j d1 p1 hd1 hp1
    by_cases hj : j < ds.length
    · rw [List.getElem?_append_left hj] at hd1
      rw [List.getElem?_append_left (by omega)] at hp1
      have hpr := h.pairs j d1 p1 hd1 hp1
      refine ⟨hpr.box.chg c05 ?_, hr _ _ hpr.col, ?_, ?_⟩
      · rintro (e | e)
        · have a := hpr.box
          rw [e] at a
          have b := h.box
          rw [Bx, a] at b
          injection b with b
          injection b with b1 b2
          have := congrArg Array.size b1
          simp at this
        · exact own_bx hpr.box h.row (by decide) e
      · obtain ⟨q1, hq1⟩ := hpr.px
        refine ⟨q1, (hq1.keep c05 ?_).mono (hr _)⟩
        rintro k hk (e | e)
        · subst e; have := h.col.1; have := hk.1; omega
        · have := (h.crow k e).1; have := hk.1; omega
      · obtain ⟨q1, hq1⟩ := hpr.py
        refine ⟨q1, (hq1.kept c05 ?_).mono (hr _)⟩
        rintro k hk (e | e)
        · subst e; have := h.col.1; have := hk.1; omega
        · have := (h.crow k e).1; have := hk.1; omega
    · have hj2 : j = ds.length := by
        have := (List.getElem?_eq_some_iff.1 hd1).1
        simp at this
        omega
      subst hj2
      rw [List.getElem?_append_right (by omega)] at hd1
      rw [List.getElem?_append_right (by omega)] at hp1
      simp [hlen] at hd1 hp1
      subst hd1
      subst hp1
      refine ⟨hpbx, ⟨knew _ (Nat.le_refl _) (by omega), by omega, by omega⟩, ⟨q, (hx.keep c15 ?_).mono ?_⟩, ⟨r, (hy.kept c25 ?_).mono ?_⟩⟩
      · rintro k hk (e | e)
        · have := hk.1; omega
        · have := rowlt k e; have := hk.1; omega
      · rintro k ⟨hk1, hk2⟩
        refine ⟨?_, by omega, by omega⟩
        rw [hκ']; simp only; rw [if_neg (by omega), if_pos hk2]
      · rintro k hk (e | e)
        · have := hk.1; omega
        · have := rowlt k e; have := hk.1; omega
      · rintro k ⟨hk1, hk2⟩
        refine ⟨?_, by omega, by omega⟩
        rw [hκ']; simp only; rw [if_neg (by omega), if_neg (by omega), if_pos hk2]
  · have nn : ∀ {e size m : Nat} {v : Value} {xs : List Value}, w.ownsRow 0 e size v m xs → e ≠ 118 → e ≠ 65 → ∀ k, v.ownBlock = some k → ¬ (k = bw ∨ P.pv.ownBlock = some k) := fun hrow he1 he2 k e => by
      rintro (e' | e')
      · exact own_bx h.box hrow he2 (by rw [← e']; exact e)
      · exact own_rw hrow h.row he1 k e e'
    have hm := h.marks
    exact ⟨own_chg hm.is c05 (nn hm.is (by decide) (by decide)), own_chg hm.im c05 (nn hm.im (by decide) (by decide)), fun k e => hr _ _ (hm.cis k e), fun k e => hr _ _ (hm.cim k e), fun mk hmk => ⟨own_chg (hm.each mk hmk).1 c05 (nn (hm.each mk hmk).1 (by decide) (by decide)), fun k e => hr _ _ ((hm.each mk hmk).2 k e)⟩⟩
  · intro k hk
    rw [hκ']; simp only
    rw [if_neg (by omega), if_neg (by omega), if_neg (by omega), if_neg (by omega)]
    exact h.out k (by omega)
theorem made_push {w w1 w2 : World} {κ : Nat → Nat} {n bw : Nat} {ds : List (Dk × Dk)} {P : LawP} {ls : List Mark} {x y : Nat} {d : Dk} {q : StP} {r : RfP} (h : LawAt w κ n bw ds P ls) (hn : n ≤ w.heap.size) (hb1 : Below w.heap.size w w1) (hx : StoreAt w1 (Gnew w w1) x d q) (hb2 : Below w1.heap.size w1 w2) (hy : RefAt w2 (Gnew w1 w2) y d r) (hl : ds.length ≤ 1353245081000) :
    ∃ g cap w4, (Builtin.append_ #[61, 61] 61 #[P.pv, .slice (some ⟨w2.heap.size + 1, 0, none⟩) 1 1]).run Tryz.prog ((w2.alloc (.cells #[.pointer (some ⟨x, 0, none⟩), .pointer (some ⟨y, 0, none⟩)] 198)).alloc (.cells #[.pointer (some ⟨w2.heap.size, 0, none⟩)] 118)) = .ok (.slice (some ⟨g, 0, none⟩) (P.ps.length + 1) cap) w4 ∧
      Bx w4 bw #[P.pv, P.isv, P.imv, .int .i64 P.next] 65 ∧
      ∃ κ', LawAt (w4.setCell ⟨bw, 0, none⟩ (.slice (some ⟨g, 0, none⟩) (P.ps.length + 1) cap)) κ' n bw (ds ++ [(d, d)]) ⟨.slice (some ⟨g, 0, none⟩) (P.ps.length + 1) cap, P.ps ++ [(w2.heap.size, x, y)], P.isv, P.imv, P.next⟩ ls ∧ (∀ k, κ k = 1 → k < w.heap.size → κ' k = 1) ∧ Chg (fun k => k = bw ∨ P.pv.ownBlock = some k) w (w4.setCell ⟨bw, 0, none⟩ (.slice (some ⟨g, 0, none⟩) (P.ps.length + 1) cap)) := by
  obtain ⟨w3, hw3⟩ : ∃ w3, w3 = (w2.alloc (.cells #[.pointer (some ⟨x, 0, none⟩), .pointer (some ⟨y, 0, none⟩)] 198)).alloc (.cells #[.pointer (some ⟨w2.heap.size, 0, none⟩)] 118) := ⟨_, rfl⟩
  have z1 := hb1.size
  have z2 := hb2.size
  have z3 : w3.heap.size = w2.heap.size + 2 := by rw [hw3]; simp
  have hb23 : Below w2.heap.size w2 w3 := by rw [hw3]; exact ((Below.refl _ _).alloc (Nat.le_refl _) _).alloc (by simp) _
  have hb03 : Below w.heap.size w w3 := (hb1.trans (hb2.mono z1)).trans (hb23.mono (by omega))
  have hrow : w3.ownsRow 0 118 1 P.pv P.ps.length (ptrs P.ps) := by
    have := own_below h.row hb03 (Nat.le_refl _)
    rw [← h.len] at this
    exact this
  have hcell : w3.cell? ⟨w2.heap.size + 1, 0, none⟩ = some (.pointer (some ⟨w2.heap.size, 0, none⟩)) := by
    rw [hw3]
    exact (bx_new (w2.alloc (.cells #[.pointer (some ⟨x, 0, none⟩), .pointer (some ⟨y, 0, none⟩)] 198)) #[.pointer (some ⟨w2.heap.size, 0, none⟩)] 118 (by simp)).cell (j := 0) rfl
  obtain ⟨g, cap, w4, a1, a2, a3, a4, a5⟩ := app_pair (p := (w2.heap.size, x, y)) hrow hcell (by rw [h.len]; omega)
  have hbx3 : Bx w3 bw #[P.pv, P.isv, P.imv, .int .i64 P.next] 65 := h.box.below hb03 h.box.lt
  have hbx4 : Bx w4 bw #[P.pv, P.isv, P.imv, .int .i64 P.next] 65 := (a3.block bw hbx3.lt (fun e => own_bx h.box h.row (by decide) e.symm)).trans hbx3
  rw [hw3] at a1 a3
  refine ⟨g, cap, w4, a1, hbx4, ?_⟩
  exact h.pushed hn hb1 hx hb2 hy a3 a2 (a4.imp id (fun e => by omega)) a5
theorem Inv.pushed {E : Sent} {n bw nd c : Nat} {m : Bool} {Fr : Nat → Prop} {w w5 : World} {κ κ' : Nat → Nat} {ds : List (Dk × Dk)} {P P' : LawP} {ls : List Mark} {room : Nat} (h1 : LawAt w κ n bw ds P ls) (h2 : Env0 n w E) (h3 : ∀ d ∈ ds, d.1 = d.2 ∧ DkOk d.1) (h4 : m = false → ls = []) (h5 : ds.length = nd) (h6 : ls.length ≤ 4 * c) (h7 : ∀ k, Fr k → κ k = 1 ∧ k < w.heap.size)
    (hr : room ≤ 100000) (hL : LawAt w5 κ' n bw (ds ++ [(dk0 room, dk0 room)]) P' ls) (hκ : ∀ k, κ k = 1 → k < w.heap.size → κ' k = 1) (hC : Chg (fun k => k = bw ∨ P.pv.ownBlock = some k) w w5) : Inv E n bw m (nd + 1) c Fr w5 ∧ Chg (Mv n Fr) w w5 := by
  have hsz := hC.size
  have hmv : Chg (Mv n Fr) w w5 := hC.mono (fun k hk e => by
    have hc0 : Rg κ n w 0 k := by
      rcases e with e | e
      · rw [e]; exact h1.col
      · exact h1.crow k e
    exact ⟨hc0.2.1, fun hf => by have := (h7 k hf).1; have := hc0.1; omega⟩)
  refine ⟨⟨κ', _, P', ls, hL, h2.chg hmv (fun k hk => hk.1), ?_, h4, by simp [h5], h6, fun k hk => ⟨hκ k (h7 k hk).1 (h7 k hk).2, Nat.lt_of_lt_of_le (h7 k hk).2 hsz⟩⟩, hmv⟩
  intro d hd
  simp only [List.mem_append, List.mem_singleton] at hd
  rcases hd with hd | rfl
  · exact h3 d hd
  · refine ⟨rfl, DkOk.disk (room := (room : Int)) ?_⟩
    unfold diskD
    rw [if_neg (by omega)]
    simp [dk0]
set_option maxRecDepth 100000 in
set_option maxHeartbeats 1600000 in
theorem made_any (E : Sent) (n bw nd c : Nat) (m : Bool) (Fr : Nat → Prop) (room : Int) (w : World) (hI : Inv E n bw m nd c Fr w) (hnd : nd ≤ 1353245081000) :
    Calls Tryz.prog 64 #[.pointer (some ⟨bw, 0, none⟩), .int .i64 room] w fun e w' => e = .returned (.bool true) ∧ (∃ nd', nd' ≤ nd + 1 ∧ Inv E n bw m nd' c Fr w') ∧ Chg (Mv n Fr) w w' := by
  by_cases hbad : room < 0 ∨ 100000 < room
  · have HX := disk_bad room w hbad
    have HY := rdisk_bad room w hbad
    have HI : Hid (Inv E n bw m nd c Fr w) := hI
    clear hI hbad
    go_enter Tryz.func64, Tryz.ntmps64
    go_wp2_with (first | (go_at_call 35; refine HX.mono ?_; rintro e w ⟨rfl, rfl⟩) | (go_at_call 117; refine HY.mono ?_; rintro e w ⟨rfl, rfl⟩) | (go_at_call 114; refine (num_any _ _).mono ?_; rintro e w ⟨rfl, rfl⟩))
    go_ret
    exact ⟨rfl, ⟨nd, by omega, HI.out⟩, Chg.refl _ _⟩
  · obtain ⟨r, rfl⟩ : ∃ r : Nat, room = r := ⟨room.toNat, by omega⟩
    have hr : r ≤ 100000 := by omega
    have HX := disk_good r w hr
    have HY : Hid (∀ w1 : World, Calls Tryz.prog 117 #[.int .i64 (r : Int)] w1 fun e w' => e = .returned (.tuple #[.pointer (some ⟨w1.heap.size, 0, none⟩), .int .i64 0]) ∧ RefAt w' (Gnew w1 w') w1.heap.size (dk0 r) q0 ∧ Below w1.heap.size w1 w') := fun w1 => (rdisk_good r w1 hr).mono fun e w' ⟨a1, a2⟩ => by
      subst a2
      exact ⟨a1, ref_new r w1, (Below.refl _ _).alloc (Nat.le_refl _) _⟩
    obtain ⟨κ, ds, P, ls, h1, h2, h3, h4, h5, h6, h7⟩ := hI
    have HPV : Hid (∀ w2 : World, Below w.heap.size w w2 → w2.cell? ⟨bw, 0, none⟩ = some P.pv) := fun w2 hb => (h1.box.below hb h1.box.lt).cell (j := 0) rfl
    have HPU : Hid (∀ (w1 w2 : World) (x y : Nat) (q : StP) (rr : RfP), Below w.heap.size w w1 → StoreAt w1 (Gnew w w1) x (dk0 r) q → Below w1.heap.size w1 w2 → RefAt w2 (Gnew w1 w2) y (dk0 r) rr →
        ∃ g cap w4, (Builtin.append_ #[61, 61] 61 #[P.pv, .slice (some ⟨w2.heap.size + 1, 0, none⟩) 1 1]).run Tryz.prog ((w2.alloc (.cells #[.pointer (some ⟨x, 0, none⟩), .pointer (some ⟨y, 0, none⟩)] 198)).alloc (.cells #[.pointer (some ⟨w2.heap.size, 0, none⟩)] 118)) = .ok (.slice (some ⟨g, 0, none⟩) (P.ps.length + 1) cap) w4 ∧
          w4.cell? ⟨bw, 0, none⟩ = some P.pv ∧ w4.frozen? ⟨bw, 0, none⟩ = false ∧ Hid (Inv E n bw m (nd + 1) c Fr (w4.setCell ⟨bw, 0, none⟩ (.slice (some ⟨g, 0, none⟩) (P.ps.length + 1) cap)) ∧ Chg (Mv n Fr) w (w4.setCell ⟨bw, 0, none⟩ (.slice (some ⟨g, 0, none⟩) (P.ps.length + 1) cap)))) := fun w1 w2 x y q rr b1 b2 b3 b4 => by
      obtain ⟨g, cap, w4, e1, e2, κ', e3, e4, e5⟩ := made_push h1 h2.le b1 b2 b3 b4 (by omega)
      exact ⟨g, cap, w4, e1, e2.cell (j := 0) rfl, e2.frozen 0, Inv.pushed h1 h2 h3 h4 h5 h6 h7 hr e3 e4 e5⟩
    obtain ⟨pv, hpv⟩ : ∃ pv, pv = P.pv := ⟨_, rfl⟩
    obtain ⟨a, cp, hv⟩ := own_len h1.row
    rw [hv] at HPV HPU
    clear h1 h2 h3 h4 h5 h6 h7 hbad hv hpv
    go_enter Tryz.func64, Tryz.ntmps64
    go_wp2_with (first | (go_at_call 35; refine HX.mono ?_; rintro e w1 ⟨x, q, rfl, hx, hb1⟩; have HX1 : Hid (StoreAt w1 (Gnew w w1) x (dk0 r) q) := hx; have HB1 : Hid (Below w.heap.size w w1) := hb1; clear hx hb1) | (go_at_call 117; refine (HY.out _).mono ?_; rintro e w2 ⟨rfl, hy, hb2⟩; have c0 := HPV.out w2 (HB1.out.trans (hb2.mono HB1.out.size)); obtain ⟨g, cap, w4, hrun, c4, f4, hend⟩ := HPU.out w1 w2 _ _ _ _ HB1.out HX1.out hb2 hy; have HRUN : Hid _ := hrun; clear hy hb2 hrun) | (go_at_call 114; refine (num_any _ _).mono ?_; rintro e w2 ⟨rfl, rfl⟩) | (at_builtin; refine wp_append_run rfl (.tmp 37) (.tmp 42) 61 61 rfl rfl rfl HRUN.out ?_))
    go_ret
    exact ⟨rfl, ⟨nd + 1, by omega, hend.out.1⟩, hend.out.2⟩
end Go.Proofs.YtdhgebdbiehchaaGreatDoor
namespace Go.Proofs.YtdhgebdbiehchaaGreatDoor
open Go.RowKit Go.Maps
set_option linter.unusedSimpArgs false
set_option linter.unusedVariables false

theorem fileR_down {d : Dk} {l : List UInt8} (h : d.down = true) : d.fileR l = ([], 7) := by unfold Dk.fileR; rw [if_pos h]
theorem fileR_none {d : Dk} {s : ByteArray} (hd : d.down = false) (h : ∀ i, i < 3 → ¬ (S (nm i) = s ∧ (d.file i).isSome = true)) : d.fileR s.data.toList = ([], 2) := by
  unfold Dk.fileR
  rw [if_neg (by simp [hd])]
  cases hf : d.file (nameN s.data.toList) with
  | none => rfl
  | some f =>
    exfalso
    have h2 := file_le hf
    refine h (nameN s.data.toList) (by omega) ⟨?_, by rw [hf]; rfl⟩
    rw [nm_nameN h2]
    rfl
theorem fileR_some {d : Dk} {s : ByteArray} {i : Nat} {f : Fl} (hd : d.down = false) (hi : i < 3) (hs : S (nm i) = s) (hf : d.file i = some f) : d.fileR s.data.toList = (f.text, 0) := by
  subst hs
  unfold Dk.fileR
  rw [if_neg (by simp [hd]), show (S (nm i)).data.toList = nm i from rfl, nameN_nm (by omega), hf]
set_option maxRecDepth 100000 in
set_option maxHeartbeats 1600000 in
theorem rfile_any (G : Nat → Prop) (b : Nat) (d : Dk) (q : RfP) (s : ByteArray) (w : World) (hR : RefAt w G b d q) :
    Calls Tryz.prog 178 #[.pointer (some ⟨b, 0, none⟩), .string s] w fun e w' => e = .returned (.tuple #[.string (S (d.fileR s.data.toList).1), .int .i64 (d.fileR s.data.toList).2]) ∧ Below w.heap.size w w' := by
  have c1 : w.cell? ⟨b, 1, none⟩ = some (.bool d.down) := hR.box.cell (j := 1) rfl
  cases hd : d.down with
  | true =>
    have HE : Hid (d.fileR s.data.toList = ([], 7)) := fileR_down hd
    rw [hd] at c1
    clear hR
    go_enter Tryz.func178, Tryz.ntmps178
    go_wp2
    go_ret2
    exact ⟨by rw [HE.out]; rfl, Below.refl _ _⟩
  | false =>
    rw [hd] at c1
    have HR : Hid (RefAt w G b d q) := hR
    clear hR
    go_enter Tryz.func178, Tryz.ntmps178
    go_wp2
    go_loopw [7] (fun i wr => ∃ (k : Nat), k ≤ 3 ∧ i = .int .i64 k ∧ Hid (∀ i, i < k → ¬ (S (nm i) = s ∧ (d.file i).isSome = true)) ∧ wr = w.alloc (.cells #[.string ⟨#[108, 111, 103]⟩, .string ⟨#[110, 101, 119]⟩, .string ⟨#[105, 110, 100, 101, 120]⟩] 9)) (fun i _ => 3 - (intOf i).toNat)
    case atStart => exact ⟨0, by omega, rfl, fun i hi => absurd hi (by omega), rfl⟩
    case round =>
      obtain ⟨k, hk, rfl, HN, rfl⟩ := hrel
      have HB : Hid (Below w.heap.size w (w.alloc (.cells #[.string ⟨#[108, 111, 103]⟩, .string ⟨#[110, 101, 119]⟩, .string ⟨#[105, 110, 100, 101, 120]⟩] 9))) := (Below.refl _ _).alloc (Nat.le_refl _) _
      by_cases hlt : k < 3
      · have HRA := HR.out.below HB.out
        obtain ⟨g0, g1, g2⟩ := file_cells HRA.box hlt
        have nmc : (w.alloc (.cells #[.string ⟨#[108, 111, 103]⟩, .string ⟨#[110, 101, 119]⟩, .string ⟨#[105, 110, 100, 101, 120]⟩] 9)).cell? ⟨w.heap.size, k, none⟩ = some (.string (S (nm k))) := by
          have e : (w.alloc (.cells #[.string ⟨#[108, 111, 103]⟩, .string ⟨#[110, 101, 119]⟩, .string ⟨#[105, 110, 100, 101, 120]⟩] 9)).cell? ⟨w.heap.size, k, none⟩ = _ := World.cell?_alloc_new w _ _ k
          rw [e]
          match k, hlt with
          | 0, _ => rfl
          | 1, _ => rfl
          | 2, _ => rfl
        clear g2 HRA
        generalize hW : (w.alloc (.cells #[.string ⟨#[108, 111, 103]⟩, .string ⟨#[110, 101, 119]⟩, .string ⟨#[105, 110, 100, 101, 120]⟩] 9)) = W at *
        by_cases hs : S (nm k) = s
        · have HS : Hid (S (nm k) = s) := hs
          rw [hs] at nmc
          clear hs
          cases hf : d.file k with
          | none =>
            have HF : Hid (d.file k = none) := hf
            rw [hf] at g0 g1
            have g0' : W.cell? ⟨b, 2 + k * 3, none⟩ = some (.bool false) := g0
            clear g0 g1 hf
            go_wp2
            go_roundw
            case rel =>
              refine ⟨k + 1, by omega, by go_num, fun i hi => ?_, trivial⟩
              by_cases e : i = k
              · subst e; rw [HF.out]; simp
              · exact HN.out i (by omega)
            case measure => simp [intOf]; omega
          | some f =>
            have HE : Hid (d.fileR s.data.toList = (f.text, 0)) := fileR_some hd hlt HS.out hf
            rw [hf] at g0 g1
            have g0' : W.cell? ⟨b, 2 + k * 3, none⟩ = some (.bool true) := g0
            have g1' : W.cell? ⟨b, 2 + k * 3 + 1, none⟩ = some (.string (S f.text)) := g1
            clear g0 g1 hf HN
            go_wp2
            go_ret2
            exact ⟨by rw [HE.out]; rfl, HB.out⟩
        · have hs' : ¬ (Value.string (S (nm k)) = Value.string s) := by intro e; injection e with e; exact hs e
          have HSN : Hid (¬ S (nm k) = s) := hs
          clear g0 g1
          have hsl : ((S (nm k)).toList == s.toList) = false := by
            rw [ByteArray.toList_eq, ByteArray.toList_eq, S_data, beq_eq_false_iff_ne]
            intro e
            exact hs (by rw [e]; rfl)
          clear hs' HSN
          generalize hnk : S (nm k) = nk at *
          go_wp2
          go_roundw
          case rel =>
            refine ⟨k + 1, by omega, by go_num, fun i hi => ?_, trivial⟩
            by_cases e : i = k
            · subst e; exact fun h => hs (hnk.symm.trans h.1)
            · exact HN.out i (by omega)
          case measure => simp [intOf]; omega
      · have e : k = 3 := by omega
        subst e
        have HE : Hid (d.fileR s.data.toList = ([], 2)) := fileR_none hd HN.out
        go_wp2
        go_ret2
        exact ⟨by rw [HE.out]; rfl, HB.out⟩
end Go.Proofs.YtdhgebdbiehchaaGreatDoor
