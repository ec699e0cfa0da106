/- The statement's step, where a disk is called. The statement's given and plays: every step is answered alike, in every order. The statement's looks: every list that came out reads as its owner wrote it. The statement's steps that write: each is answered alike. -/
import Derived.Test.YtdhgebdbiehchaaGreatDoorB45
import Derived.Test.YtdhgebdbiehchaaGreatDoorB38
namespace Go.Proofs.YtdhgebdbiehchaaGreatDoor
open Go.RowKit Go.Maps
set_option linter.unusedSimpArgs false
set_option linter.unusedVariables false

def Steps (m : Bool) (o : OpV) : Prop := ∀ (E : Sent) (n bw nd c : Nat) (Fr : Nat → Prop) (w : World), Inv E n bw m nd c Fr w → nd ≤ 1353245081000 → c ≤ 1353245081000 → HalvesAt w →
  Calls Tryz.prog 33 #[.pointer (some ⟨bw, 0, none⟩), o.val] w fun e w' => e = .returned (.bool true) ∧ (∃ nd' c', nd' ≤ nd + 1 ∧ c' ≤ c + 1 ∧ (o.kind = 10 → nd' = nd ∧ c' = c) ∧ Inv E n bw m nd' c' Fr w') ∧ Chg (Mv n Fr) w w'
def pickN (k : Int) (n : Nat) : Nat := if k < 0 ∨ (n : Int) ≤ k then 0 else k.toNat
theorem pickN_lt {k : Int} {n : Nat} (h : 0 < n) : pickN k n < n := by unfold pickN; split <;> omega
theorem pick_any (k : Int) (n : Nat) (w : World) : Calls Tryz.prog 66 #[.int .i64 k, .int .i64 (n : Int)] w fun e w' => e = .returned (.int .i64 (pickN k n : Int)) ∧ w' = w := by
  by_cases h0 : k < 0
  · have e : pickN k n = 0 := by unfold pickN; rw [if_pos (.inl h0)]
    rw [e]
    go_enter Tryz.func66, Tryz.ntmps66
    go_wp2
    go_ret
    exact ⟨rfl, rfl⟩
  · by_cases h1 : (n : Int) ≤ k
    · have e : pickN k n = 0 := by unfold pickN; rw [if_pos (.inr h1)]
      rw [e]
      go_enter Tryz.func66, Tryz.ntmps66
      go_wp2
      go_ret
      exact ⟨rfl, rfl⟩
    · have e : (pickN k n : Int) = k := by unfold pickN; rw [if_neg (by omega)]; omega
      rw [e]
      go_enter Tryz.func66, Tryz.ntmps66
      go_wp2
      go_ret
      exact ⟨rfl, rfl⟩
theorem chg_mv {n : Nat} {Fr : Nat → Prop} {w w1 w2 : World} (hb : Below w.heap.size w w1) (h : Chg (Mv n Fr) w1 w2) : Chg (Mv n Fr) w w2 := (Chg.of_below hb).trans (h.mono (fun k _ hk => .inl hk))
set_option maxRecDepth 100000 in
set_option maxHeartbeats 3200000 in
theorem step_does (m : Bool) (o : OpV) (h6 : 6 ≤ o.kind) (h16 : o.kind ≤ 16) (hD : Does m o) : Steps m o := by
  intro E n bw nd c Fr w hI hnd hcb hH
  have HI : Hid (Inv E n bw m nd c Fr w) := hI
  obtain ⟨κ, ds, P, ls, h1, h2, h3, h4, h5, h6', h7⟩ := hI
  have cb0 : w.cell? ⟨bw, 0, none⟩ = some P.pv := h1.box.cell (j := 0) rfl
  have hbl := h1.box.lt
  obtain ⟨a, cp, hv⟩ := own_len h1.row
  by_cases hz : ds.length = 0
  · rw [hv, hz] at cb0
    have cb0' : w.cell? ⟨bw, 0, none⟩ = some (.slice a 0 cp) := cb0
    obtain ⟨kind, at', x, y, s, t, u, c0, c1, c2⟩ := o
    dsimp only at h6 h16
    clear h1 h2 h3 h4 h5 h6' h7 hv cb0 hz hD hH
    unfold OpV.val
    dsimp only
    go_enter Tryz.func33, Tryz.ntmps33
    go_wp2
    go_ret
    refine ⟨rfl, ⟨nd, c, by omega, by omega, fun _ => ⟨rfl, rfl⟩, ?_⟩, ?_⟩
    · exact HI.out.below ((Below.refl _ _).alloc (Nat.le_refl _) _)
    · exact Chg.of_below ((Below.refl _ _).alloc (Nat.le_refl _) _)
  · have hpos : 0 < ds.length := by omega
    obtain ⟨g, cap, hv2, _, hgl, hgc⟩ := own_cellsN h1.row hpos
    rw [hv2] at cb0
    have hjl : pickN o.at' ds.length < ds.length := pickN_lt hpos
    obtain ⟨dd, hdd⟩ : ∃ d, ds[pickN o.at' ds.length]? = some d := ⟨_, List.getElem?_eq_getElem hjl⟩
    obtain ⟨p, hpp⟩ : ∃ p, P.ps[pickN o.at' ds.length]? = some p := ⟨_, List.getElem?_eq_getElem (by rw [h1.len]; exact hjl)⟩
    have cg : w.cell? ⟨g, pickN o.at' ds.length, none⟩ = some (.pointer (some ⟨p.1, 0, none⟩)) := by
      rw [hgc _ (by omega), List.getElem?_map, hpp]; rfl
    have hda : dd = (dd.1, dd.1) := by have := (h3 dd (List.mem_of_getElem? hdd)).1; obtain ⟨x, y⟩ := dd; simp at this ⊢; exact this.symm
    rw [hda] at hdd
    have hWB : Below w.heap.size w (w.alloc (.cells (opC o) 68)) := (Below.refl _ _).alloc (Nat.le_refl _) _
    have hob : ∀ w1 : World, w1.heap[w.heap.size]? = (w.alloc (.cells (opC o) 68)).heap[w.heap.size]? → Bx w1 w.heap.size (opC o) 68 := fun w1 e => e.trans (bx_new w _ _ rfl)
    have HSO : Hid (∀ w1 : World, w1.cell? ⟨bw, 0, none⟩ = w.cell? ⟨bw, 0, none⟩ → w1.heap[g]? = w.heap[g]? → w1.heap[w.heap.size]? = (w.alloc (.cells (opC o) 68)).heap[w.heap.size]? →
        (w1.cell? ⟨bw, 0, none⟩ = some (.slice (some ⟨g, 0, none⟩) ds.length cap) ∧ w1.cell? ⟨g, pickN o.at' ds.length, none⟩ = some (.pointer (some ⟨p.1, 0, none⟩))) ∧ (w1.cell? ⟨w.heap.size, 0, none⟩ = some (.int .i64 o.kind) ∧ w1.cell? ⟨w.heap.size, 1, none⟩ = some (.int .i64 o.at') ∧ w1.cell? ⟨w.heap.size, 2, none⟩ = some (.int .i64 o.x) ∧ w1.cell? ⟨w.heap.size, 3, none⟩ = some (.int .i64 o.y) ∧ w1.cell? ⟨w.heap.size, 4, none⟩ = some (.string o.s) ∧ w1.cell? ⟨w.heap.size, 5, none⟩ = some (.string o.t) ∧ w1.cell? ⟨w.heap.size, 6, none⟩ = some (.string o.u) ∧ w1.cell? ⟨w.heap.size, 7, none⟩ = some (.int .i64 o.c0) ∧ w1.cell? ⟨w.heap.size, 8, none⟩ = some (.int .i64 o.c1) ∧ w1.cell? ⟨w.heap.size, 9, none⟩ = some (.int .i64 o.c2))) := fun w1 e1 e2 e3 => by
      have hx := hob w1 e3
      refine ⟨⟨e1.trans cb0, ?_⟩, hx.cell (j := 0) rfl, hx.cell (j := 1) rfl, hx.cell (j := 2) rfl, hx.cell (j := 3) rfl, hx.cell (j := 4) rfl, hx.cell (j := 5) rfl, hx.cell (j := 6) rfl, hx.cell (j := 7) rfl, hx.cell (j := 8) rfl, hx.cell (j := 9) rfl⟩
      rw [← cg]
      unfold World.cell?
      rw [e2]
    have HS0 := HSO.out (w.alloc (.cells (opC o) 68)) (hWB.cell (p := ⟨bw, 0, none⟩) hbl) (hWB.block g hgl) rfl
    have HDO : Hid (∀ w1 : World, Below (w.alloc (.cells (opC o) 68)).heap.size (w.alloc (.cells (opC o) 68)) w1 → Calls Tryz.prog 65 #[.pointer (some ⟨bw, 0, none⟩), .pointer (some ⟨p.1, 0, none⟩), o.val] w1 fun e w' => e = .returned (.bool true) ∧ (w'.cell? ⟨bw, 0, none⟩ = w.cell? ⟨bw, 0, none⟩ ∧ w'.heap[g]? = w.heap[g]? ∧ w'.heap[w.heap.size]? = (w.alloc (.cells (opC o) 68)).heap[w.heap.size]?) ∧ (∃ nd' c', nd' ≤ nd + 1 ∧ c' ≤ c + 1 ∧ (o.kind = 10 → nd' = nd ∧ c' = c) ∧ Inv E n bw m nd' c' Fr w') ∧ Chg (Mv n Fr) w w') := fun w1 hb1 => by
      have hz1 : w.heap.size < w1.heap.size := by have := hb1.size; simp at this; omega
      have hb : Below w.heap.size w w1 := hWB.trans (hb1.mono (by simp))
      have hobx : w1.heap[w.heap.size]? = (w.alloc (.cells (opC o) 68)).heap[w.heap.size]? := hb1.block _ (by simp)
      refine (hD E n bw nd c (fun k => Fr k ∨ k = w.heap.size) w1 κ ds P ls _ dd.1 p (h1.below hb) (h2.below (hb.mono h2.le)) h3 h4 h5 h6' (fun k hk => ?_) hcb hdd hpp).mono ?_
      · rcases hk with hk | hk
        · exact ⟨(h7 k hk).1, Nat.lt_of_lt_of_le (h7 k hk).2 hb.size⟩
        · exact ⟨h1.out k (by omega), by omega⟩
      · rintro e w' ⟨rfl, ⟨c', a1, a2, a3⟩, a4, a5, a6⟩
        refine ⟨rfl, ⟨a5.trans (hb.cell (p := ⟨bw, 0, none⟩) hbl), (a6 g (by rw [hv2]; rfl)).trans (hb.block g hgl), (a4.keep _ hz1 (fun h => h.2 (.inr rfl))).trans hobx⟩, ⟨nd, c', by omega, a1, fun e => ⟨rfl, a2 e⟩, ?_⟩, chg_mv hb (a4.mono (fun k _ hk => ⟨hk.1, fun hf => hk.2 (.inl hf)⟩))⟩
        obtain ⟨κ', ds', P', ls', b1, b2, b3, b4, b5, b6, b7⟩ := a3
        exact ⟨κ', ds', P', ls', b1, b2, b3, b4, b5, b6, fun k hk => b7 k (.inl hk)⟩
    have hposI : (0 : Int) < (ds.length : Int) := by omega
    have hjI : (pickN o.at' ds.length : Int) < (ds.length : Int) := by omega
    have HPK : Hid (∀ wx : World, Calls Tryz.prog 66 #[.int .i64 o.at', .int .i64 (ds.length : Int)] wx fun e w' => e = .returned (.int .i64 (pickN o.at' ds.length : Int)) ∧ w' = wx) := fun wx => pick_any _ _ wx
    clear h1 h2 h3 h4 h5 h6' h7 hD hH hv hda hdd hpp hgc HI hz hob hWB
    have HS0h : Hid ((_ ∧ _) ∧ _) := HS0
    clear HS0
    generalize pickN o.at' ds.length = jj at *
    generalize ds.length = nn at *
    obtain ⟨kind, at', x, y, s, t, u, c0, c1, c2⟩ := o
    dsimp only at h6 h16
    unfold OpV.val at HDO ⊢
    dsimp only at HDO HPK HSO HS0h ⊢
    go_enter Tryz.func33, Tryz.ntmps33
    go_wp2_with fail
    go_region_held3 (fun w1 => (w1.cell? ⟨bw, 0, none⟩ = some (.slice (some ⟨g, 0, none⟩) nn cap) ∧ w1.cell? ⟨g, jj, none⟩ = some (.pointer (some ⟨p.1, 0, none⟩))) ∧ (w1.cell? ⟨w.heap.size, 0, none⟩ = some (.int .i64 kind) ∧ w1.cell? ⟨w.heap.size, 1, none⟩ = some (.int .i64 at') ∧ w1.cell? ⟨w.heap.size, 2, none⟩ = some (.int .i64 x) ∧ w1.cell? ⟨w.heap.size, 3, none⟩ = some (.int .i64 y) ∧ w1.cell? ⟨w.heap.size, 4, none⟩ = some (.string s) ∧ w1.cell? ⟨w.heap.size, 5, none⟩ = some (.string t) ∧ w1.cell? ⟨w.heap.size, 6, none⟩ = some (.string u) ∧ w1.cell? ⟨w.heap.size, 7, none⟩ = some (.int .i64 c0) ∧ w1.cell? ⟨w.heap.size, 8, none⟩ = some (.int .i64 c1) ∧ w1.cell? ⟨w.heap.size, 9, none⟩ = some (.int .i64 c2))) (first | (exact HS0h.out) | (assumption)) (first | (go_at_call 66; refine (HPK.out _).mono ?_; rintro e w' ⟨rfl, rfl⟩) | (go_at_call 65; refine (HDO.out _ ?_).mono ?_; exact (Below.refl _ _).drew; rintro e w2 ⟨rfl, ⟨f1, f2, f3⟩, hi, hc⟩; have hS2 := HSO.out w2 f1 f2 f3; have HI2 : Hid _ := hi; have HC2 : Hid _ := hc; clear hi hc f1 f2 f3))
    all_goals
      clear hS2
      go_wp2
      go_ret
      exact ⟨rfl, HI2.out, HC2.out⟩
end Go.Proofs.YtdhgebdbiehchaaGreatDoor
namespace Go.Proofs.YtdhgebdbiehchaaGreatDoor
open Go.RowKit Go.Maps
set_option linter.unusedSimpArgs false
set_option linter.unusedVariables false

theorem Chg.mvBelow {n : Nat} {Fr : Nat → Prop} {w w' : World} (h : Chg (Mv n Fr) w w') (hn : n ≤ w.heap.size) : Below n w w' := h.below hn (fun k hk => hk.1)
theorem Inv.le {E : Sent} {n bw nd c : Nat} {m : Bool} {Fr : Nat → Prop} {W : World} (h : Inv E n bw m nd c Fr W) : n ≤ W.heap.size := by
  obtain ⟨κ, ds, P, ls, h1, h2, h3, h4, h5, h6, h7⟩ := h
  exact h2.le
theorem Inv.pv {E : Sent} {n bw nd c : Nat} {m : Bool} {Fr : Nat → Prop} {W : World} (h : Inv E n bw m nd c Fr W) : ∃ a cp, W.cell? ⟨bw, 0, none⟩ = some (.slice a nd cp) := by
  obtain ⟨κ, ds, P, ls, h1, h2, h3, h4, h5, h6, h7⟩ := h
  obtain ⟨a, cp, hv⟩ := own_len h1.row
  have c0 : W.cell? ⟨bw, 0, none⟩ = some P.pv := h1.box.cell (j := 0) rfl
  rw [hv, h5] at c0
  exact ⟨a, cp, c0⟩
set_option maxRecDepth 100000 in
set_option maxHeartbeats 1600000 in
theorem given_all (m : Bool) (E : Sent) (n bw : Nat) (lo hi : Int) (w : World) (hI : Inv E n bw m 0 0 (fun _ => False) w) (HS : ∀ o : OpV, lo ≤ o.kind → o.kind ≤ hi → o.sized → Steps m o) (hH : ∀ w', Below n w w' → HalvesAt w') :
    Calls Tryz.prog 32 #[.pointer (some ⟨bw, 0, none⟩), .int .i64 lo, .int .i64 hi] w fun e w' => e = .returned (.bool true) ∧ (∃ nd c, nd ≤ 10 ∧ c ≤ 10 ∧ Inv E n bw m nd c (fun _ => False) w') ∧ Below n w w' := by
  have hnw := hI.le
  have HI : Hid (Inv E n bw m 0 0 (fun _ => False) w) := hI
  have HSh : Hid (∀ o : OpV, lo ≤ o.kind → o.kind ≤ hi → o.sized → Steps m o) := HS
  have HH : Hid (∀ w', Below n w w' → HalvesAt w') := hH
  clear hI HS hH
  go_enter Tryz.func32, Tryz.ntmps32
  go_wp2_with fail
  refine (head_any 100 7 32 _ (by omega) (by omega) (by omega) (by omega) (by omega) (by omega)).mono ?_
  rintro e w1 ⟨rfl, hb1⟩
  obtain ⟨hd, hhd⟩ : ∃ t, t = S (sealL ([76, 71] ++ lowL (100 : Int).toNat 2 ++ lowL (7 : Int).toNat 4 ++ lowL (32 : Int).toNat 2)) := ⟨_, rfl⟩
  have z1 : hd.size ≤ 100 := by rw [hhd, S_size, sealL_length]; simp [lowL_length]
  rw [← hhd]
  clear hhd
  go_wp2_with fail
  refine (block_any w1.heap.size 1 [(true, ⟨#[97]⟩, ⟨#[120]⟩)] _ (by simp) ?_ (by simp) ?_).mono ?_
  · intro i hi
    match i, hi with
    | 0, _ => simp
  · intro e he
    simp at he
    subst he
    exact ⟨by decide, by decide⟩
  rintro e w2 ⟨rfl, hb2⟩
  obtain ⟨bl, hbl⟩ : ∃ t, t = S (blockL [(true, ⟨#[97]⟩, ⟨#[120]⟩)]) := ⟨_, rfl⟩
  have z2 : bl.size ≤ 100 := by
    rw [hbl, S_size]; decide +kernel
  rw [← hbl]
  clear hbl
  have hb12 : Below w.heap.size w w2 := hb1.trans ((((Below.refl w1.heap.size w1).alloc (Nat.le_refl _) _).trans (hb2.mono (by simp))).mono hb1.size)
  clear hb1 hb2
  have q1 : ¬ 9223372036854775807 < hd.size + bl.size := by omega
  have hbz := hb12.size
  have HW2 : Hid (∀ o : Obj, Inv E n bw m 0 0 (fun k => k = w2.heap.size) (w2.alloc o) ∧ Below n w (w2.alloc o)) := fun o => ⟨HI.out.hold (hb12.alloc hbz o) hbz (by simp), (hb12.alloc hbz o).mono hnw⟩
  go_wp2
  go_loopw [9] (fun i wr => ∃ (k nd c : Nat), k ≤ 10 ∧ i = .int .i64 k ∧ nd ≤ k ∧ c ≤ k ∧ (∀ j (hj : j < 10), OpAt wr w2.heap.size (j * 10) ((givenOps (hd ++ bl))[j]'hj)) ∧ Inv E n bw m nd c (fun k => k = w2.heap.size) wr ∧ Below n w wr) (fun i _ => 10 - (intOf i).toNat)
  case atStart => exact ⟨0, 0, 0, by omega, rfl, Nat.le_refl _, Nat.le_refl _, given_lit w2 (hd ++ bl) _, (HW2.out _).1, (HW2.out _).2⟩
  case round =>
    obtain ⟨k, nd, c, hk, rfl, hnd, hc, hops, hIr, hb⟩ := hrel
    have HIr : Hid (Inv E n bw m nd c (fun k => k = w2.heap.size) wr) := hIr
    have hz2 : w2.heap.size < wr.heap.size := by
      obtain ⟨κ, ds, P, ls, a1, a2, a3, a4, a5, a6, a7⟩ := hIr
      exact (a7 _ rfl).2
    have HB : Hid (Below n w wr) := hb
    have hnr := hIr.le
    clear hIr hb
    by_cases hlt : k < 10
    · have hop := hops k hlt
      have hsz : ((givenOps (hd ++ bl))[k]'hlt).sized := given_sized (by simp; omega) _ (List.getElem_mem _)
      have hrd := HSh.out ((givenOps (hd ++ bl))[k]'hlt)
      have HO : Hid (∀ j (hj : j < 10), OpAt wr w2.heap.size (j * 10) ((givenOps (hd ++ bl))[j]'hj)) := hops
      clear hops
      generalize (givenOps (hd ++ bl))[k]'hlt = o at *
      by_cases hk1 : lo ≤ o.kind ∧ o.kind ≤ hi
      · obtain ⟨hka, hkb⟩ := hk1
        have HST : Hid (Calls Tryz.prog 33 #[.pointer (some ⟨bw, 0, none⟩), o.val] wr fun e w' => e = .returned (.bool true) ∧ (∃ nd' c', nd' ≤ nd + 1 ∧ c' ≤ c + 1 ∧ Inv E n bw m nd' c' (fun k => k = w2.heap.size) w') ∧ Chg (Mv n (fun k => k = w2.heap.size)) wr w') :=
          (hrd hka hkb hsz E n bw nd c _ wr HIr.out (by omega) (by omega) (HH.out _ HB.out)).mono fun e w' ⟨a1, ⟨nd', c', a2, a3, _, a4⟩, a5⟩ => ⟨a1, ⟨nd', c', a2, a3, a4⟩, a5⟩
        clear hrd
        obtain ⟨kind, at', x, y, s, t, u, c0, c1, c2⟩ := o
        obtain ⟨h0, h1', h2, h3, h4', h5, h6, h7, h8, h9⟩ := hop
        unfold OpV.val at HST
        dsimp only at *
        go_wp2_with fail
        refine HST.out.mono ?_
        rintro e w3 ⟨rfl, ⟨nd', c', b1, b2, b3⟩, b4⟩
        have HI3 : Hid (Inv E n bw m nd' c' (fun k => k = w2.heap.size) w3) := b3
        have HC3 : Hid (Chg (Mv n (fun k => k = w2.heap.size)) wr w3) := b4
        clear h0 h1' h2 h3 h4' h5 h6 h7 h8 h9 b3 b4
        go_wp2
        go_roundw
        case rel =>
          refine ⟨k + 1, nd', c', by omega, by go_num, by omega, by omega, fun j hj => ?_, HI3.out, HB.out.trans (HC3.out.mvBelow hnr)⟩
          have hkeep := HC3.out.keep w2.heap.size hz2 (fun h => h.2 rfl)
          have hcell : ∀ i, w3.cell? ⟨w2.heap.size, i, none⟩ = wr.cell? ⟨w2.heap.size, i, none⟩ := fun i => by unfold World.cell?; rw [hkeep]
          have := HO.out j hj
          unfold OpAt at this ⊢
          simp only [hcell]
          exact this
        case measure => simp [intOf]; omega
      · clear hrd
        obtain ⟨kind, at', x, y, s, t, u, c0, c1, c2⟩ := o
        obtain ⟨h0, h1', h2, h3, h4', h5, h6, h7, h8, h9⟩ := hop
        dsimp only at *
        rcases (show kind < lo ∨ (lo ≤ kind ∧ hi < kind) from by omega) with hka | ⟨hka, hkb⟩
        all_goals
          clear hk1
          go_wp2
          go_roundw
          case rel => exact ⟨k + 1, nd, c, by omega, by go_num, by omega, by omega, HO.out, HIr.out, HB.out⟩
          case measure => simp [intOf]; omega
    · clear hops
      go_wp2
      go_ret
      exact ⟨rfl, ⟨nd, c, by omega, by omega, HIr.out.drop⟩, HB.out⟩
def Looks (m : Bool) : Prop := ∀ (E : Sent) (n bw nd c : Nat) (Fr : Nat → Prop) (w : World), Inv E n bw m nd c Fr w → Calls Tryz.prog 34 #[.pointer (some ⟨bw, 0, none⟩)] w fun e w' => e = .returned (.bool true) ∧ Below w.heap.size w w'
theorem inv_new {E : Sent} {w : World} (m : Bool) (hE : Env w E) : Inv E w.heap.size w.heap.size m 0 0 (fun _ => False) (w.alloc (.cells #[.slice none 0 0, .slice none 0 0, .slice none 0 0, .int .i64 0] 65)) := by
  refine ⟨fun k => if k = w.heap.size then 0 else 1, [], ⟨.slice none 0 0, [], .slice none 0 0, .slice none 0 0, 0⟩, [], ⟨bx_new _ _ _ rfl, ⟨by simp, Nat.le_refl _, by simp⟩, World.ownsRow_nil _ _ _ _, rfl, fun g e => (by cases e), fun j d p hd => (by simp at hd), ⟨World.ownsRow_nil _ _ _ _, World.ownsRow_nil _ _ _ _, fun g e => (by cases e), fun g e => (by cases e), fun mk hm => (by cases hm)⟩, fun k hk => ?_⟩, ⟨w, rfl, hE, (Below.refl _ _).alloc (Nat.le_refl _) _⟩, fun d hd => (by cases hd), fun _ => rfl, rfl, ⟨by simp, Int.le_refl _, Int.le_refl _⟩, fun k hk => hk.elim⟩
  have : w.heap.size < k := by simp at hk; omega
  show (if k = w.heap.size then 0 else 1) = 1
  rw [if_neg (by omega)]
set_option maxRecDepth 100000 in
set_option maxHeartbeats 3200000 in
theorem plays_all (m : Bool) (E : Sent) (a : Option Addr) (L : List OpV) (cap : Nat) (lo hi : Int) (w : World) (hlo : lo ≤ 10) (hhi : 10 ≤ hi) (HS : ∀ o : OpV, lo ≤ o.kind → o.kind ≤ hi → o.sized → Steps m o) (HLK : Looks m) (hS : ScriptAt w a L) (hL : ∀ o ∈ L, o.sized) (hn : L.length ≤ 1353245080300) (hH : HalvesAt w) (hE : Env w E) :
    Calls Tryz.prog 12 #[.slice a L.length cap, .int .i64 lo, .int .i64 hi] w fun e w' => e = .returned (.bool true) ∧ Below w.heap.size w w' := by
  have HHA : Hid (∀ w', Below w.heap.size w w' → HalvesAt w') := fun w' hb => hH.below hb hH.1
  have HI0 : Hid (Inv E w.heap.size w.heap.size m 0 0 (fun _ => False) (w.alloc (.cells #[.slice none 0 0, .slice none 0 0, .slice none 0 0, .int .i64 0] 65))) := inv_new m hE
  have hB0 : Below w.heap.size w (w.alloc (.cells #[.slice none 0 0, .slice none 0 0, .slice none 0 0, .int .i64 0] 65)) := (Below.refl _ _).alloc (Nat.le_refl _) _
  have HGV := given_all m E w.heap.size w.heap.size lo hi _ HI0.out HS (fun w' hb => HHA.out w' (hB0.trans hb))
  have HB0 : Hid (Below w.heap.size w (w.alloc (.cells #[.slice none 0 0, .slice none 0 0, .slice none 0 0, .int .i64 0] 65))) := hB0
  have HSh : Hid (∀ o : OpV, lo ≤ o.kind → o.kind ≤ hi → o.sized → Steps m o) := HS
  have HLh : Hid (Looks m) := HLK
  clear hH hE hB0 HS HLK
  go_enter Tryz.func12, Tryz.ntmps12
  go_wp2_with fail
  refine HGV.mono ?_
  rintro e w1 ⟨rfl, ⟨nd1, c1, b1, b2, b3⟩, b4⟩
  have HI1 : Hid (Inv E w.heap.size w.heap.size m nd1 c1 (fun _ => False) w1) := b3
  have HB1 : Hid (Below w.heap.size w w1) := HB0.out.trans b4
  clear b3 b4
  go_wp2
  go_loopw [9] (fun i wr => ∃ (k nd c : Nat), k ≤ L.length ∧ i = .int .i64 k ∧ nd ≤ k + 10 ∧ c ≤ k + 10 ∧ Inv E w.heap.size w.heap.size m nd c (fun _ => False) wr ∧ Below w.heap.size w wr) (fun i _ => L.length - (intOf i).toNat)
  case atStart => exact ⟨0, nd1, c1, by omega, rfl, by omega, by omega, HI1.out, HB1.out⟩
  case round =>
    obtain ⟨k, nd, c, hk, rfl, hnd, hc, hIr, hb⟩ := hrel
    have HIr : Hid (Inv E w.heap.size w.heap.size m nd c (fun _ => False) wr) := hIr
    have HB : Hid (Below w.heap.size w wr) := hb
    have hnr := hIr.le
    by_cases hlt : k < L.length
    · rcases hS with hS | ⟨b, off, rfl, hbw, hops⟩
      · subst hS; simp at hlt
      have hop := (hops k hlt).below hb hbw
      have hsz := hL L[k] (List.getElem_mem _)
      have hrd := HSh.out L[k]
      clear hops hIr hb
      generalize L[k] = o at *
      by_cases hk1 : lo ≤ o.kind ∧ o.kind ≤ hi
      · obtain ⟨hka, hkb⟩ := hk1
        have HST : Hid (Calls Tryz.prog 33 #[.pointer (some ⟨w.heap.size, 0, none⟩), o.val] wr fun e w' => e = .returned (.bool true) ∧ (∃ nd' c', nd' ≤ nd + 1 ∧ c' ≤ c + 1 ∧ Inv E w.heap.size w.heap.size m nd' c' (fun _ => False) w') ∧ Chg (Mv w.heap.size (fun _ => False)) wr w') :=
          (hrd hka hkb hsz E _ _ nd c _ wr HIr.out (by omega) (by omega) (HHA.out _ HB.out)).mono fun e w' ⟨a1, ⟨nd', c', a2, a3, _, a4⟩, a5⟩ => ⟨a1, ⟨nd', c', a2, a3, a4⟩, a5⟩
        clear hrd
        obtain ⟨kind, at', x, y, s, t, u, c0, c1, c2⟩ := o
        obtain ⟨g0, g1, g2, g3, g4, g5, g6, g7, g8, g9⟩ := hop
        unfold OpV.val at HST
        dsimp only at *
        go_wp2_with fail
        refine HST.out.mono ?_
        rintro e w3 ⟨rfl, ⟨nd', c', d1, d2, d3⟩, d4⟩
        have HI3 : Hid (Inv E w.heap.size w.heap.size m nd' c' (fun _ => False) w3) := d3
        have HC3 : Hid (Chg (Mv w.heap.size (fun _ => False)) wr w3) := d4
        clear g0 g1 g2 g3 g4 g5 g6 g7 g8 g9 d3 d4
        go_wp2
        go_roundw
        case rel => exact ⟨k + 1, nd', c', by omega, by go_num, by omega, by omega, HI3.out, HB.out.trans (HC3.out.mvBelow hnr)⟩
        case measure => simp [intOf]; omega
      · clear hrd
        obtain ⟨kind, at', x, y, s, t, u, c0, c1, c2⟩ := o
        obtain ⟨g0, g1, g2, g3, g4, g5, g6, g7, g8, g9⟩ := hop
        dsimp only at *
        rcases (show kind < lo ∨ (lo ≤ kind ∧ hi < kind) from by omega) with hka | ⟨hka, hkb⟩
        all_goals
          clear hk1
          go_wp2
          go_roundw
          case rel => exact ⟨k + 1, nd, c, by omega, by go_num, by omega, by omega, HIr.out, HB.out⟩
          case measure => simp [intOf]; omega
    · clear hS hIr hb
      obtain ⟨W1, rfl⟩ : ∃ W1, W1 = wr := ⟨_, rfl⟩
      go_wp2
      go_loopw [10] (fun i wr => ∃ (k2 : Nat), k2 ≤ nd ∧ i = .int .i64 k2 ∧ Inv E w.heap.size w.heap.size m nd c (fun _ => False) wr ∧ Below w.heap.size w wr) (fun i _ => nd - (intOf i).toNat)
      case atStart => exact ⟨0, by omega, rfl, HIr.out, HB.out⟩
      case round =>
        obtain ⟨k2, hk2, rfl, hIr2, hb2⟩ := hrel
        have HI2 : Hid (Inv E w.heap.size w.heap.size m nd c (fun _ => False) wr) := hIr2
        have HB2 : Hid (Below w.heap.size w wr) := hb2
        have hnr2 := hIr2.le
        obtain ⟨pa, pcp, cpv⟩ := hIr2.pv
        clear hIr2 hb2
        by_cases hlt2 : k2 < nd
        · have HW : Hid (∀ o : Obj, Inv E w.heap.size w.heap.size m nd c (fun k => k = wr.heap.size) (wr.alloc o) ∧ Below w.heap.size w (wr.alloc o)) := fun o => ⟨HI2.out.hold ((Below.refl _ _).alloc (Nat.le_refl _) _) (Nat.le_refl _) (by simp), HB2.out.alloc hnr2 o⟩
          obtain ⟨W2, rfl⟩ : ∃ W2, W2 = wr := ⟨_, rfl⟩
          go_wp2
          go_loopw [12] (fun i wr => ∃ (k3 : Nat), k3 ≤ 3 ∧ i = .int .i64 k3 ∧ (∀ j, j < 3 → wr.cell? ⟨W2.heap.size, j, none⟩ = some (.string (S (nm j)))) ∧ Inv E w.heap.size w.heap.size m nd c (fun k => k = W2.heap.size) wr ∧ Below w.heap.size w wr) (fun i _ => 3 - (intOf i).toNat)
          case atStart =>
            refine ⟨0, by omega, rfl, fun j hj => ?_, (HW.out _).1, (HW.out _).2⟩
            refine (World.cell?_alloc_new W2 _ _ j).trans ?_
            match j, hj with
            | 0, _ => rfl
            | 1, _ => rfl
            | 2, _ => rfl
          case round =>
            obtain ⟨k3, hk3, rfl, hnm, hIr3, hb3⟩ := hrel
            have HI3 : Hid (Inv E w.heap.size w.heap.size m nd c (fun k => k = W2.heap.size) wr) := hIr3
            have HB3 : Hid (Below w.heap.size w wr) := hb3
            have hnr3 := hIr3.le
            have hz3 : W2.heap.size < wr.heap.size := by
              obtain ⟨κ, ds, P, ls, a1, a2, a3, a4, a5, a6, a7⟩ := hIr3
              exact (a7 _ rfl).2
            clear hIr3 hb3
            by_cases hlt3 : k3 < 3
            · have cn := hnm k3 hlt3
              have HNM : Hid (∀ j, j < 3 → wr.cell? ⟨W2.heap.size, j, none⟩ = some (.string (S (nm j)))) := hnm
              have hso : OpV.sized ⟨10, k2, 0, 0, S (nm k3), ⟨#[]⟩, ⟨#[]⟩, 0, 0, 0⟩ := by
                have z0 : (⟨#[]⟩ : ByteArray).size = 0 := rfl
                refine ⟨?_, by dsimp only; rw [z0]; omega, by dsimp only; rw [z0]; omega⟩
                dsimp only
                rw [S_size]
                match k3, hlt3 with
                | 0, _ => decide
                | 1, _ => decide
                | 2, _ => decide
              have HST : Hid (Calls Tryz.prog 33 #[.pointer (some ⟨w.heap.size, 0, none⟩), .agg #[.int .i64 10, .int .i64 (k2 : Int), .int .i64 0, .int .i64 0, .string (S (nm k3)), .string ⟨#[]⟩, .string ⟨#[]⟩, .int .i64 0, .int .i64 0, .int .i64 0]] wr fun e w' => e = .returned (.bool true) ∧ Inv E w.heap.size w.heap.size m nd c (fun k => k = W2.heap.size) w' ∧ Chg (Mv w.heap.size (fun k => k = W2.heap.size)) wr w') :=
                (HSh.out ⟨10, k2, 0, 0, S (nm k3), ⟨#[]⟩, ⟨#[]⟩, 0, 0, 0⟩ hlo hhi hso E _ _ nd c _ wr HI3.out (by omega) (by omega) (HHA.out _ HB3.out)).mono fun e w' ⟨a1, ⟨nd', c', a2, a3, a6, a4⟩, a5⟩ => by
                  obtain ⟨rfl, rfl⟩ := a6 rfl
                  exact ⟨a1, a4, a5⟩
              clear hnm hso
              generalize S (nm k3) = nk at *
              go_wp2_with fail
              refine HST.out.mono ?_
              rintro e w3 ⟨rfl, d3, d4⟩
              have HI4 : Hid (Inv E w.heap.size w.heap.size m nd c (fun k => k = W2.heap.size) w3) := d3
              have HC4 : Hid (Chg (Mv w.heap.size (fun k => k = W2.heap.size)) wr w3) := d4
              clear d3 d4 cn
              go_wp2
              go_roundw
              case rel =>
                refine ⟨k3 + 1, by omega, by go_num, fun j hj => ?_, HI4.out, HB3.out.trans (HC4.out.mvBelow hnr3)⟩
                have hkeep := HC4.out.keep W2.heap.size hz3 (fun h => h.2 rfl)
                have hcell : ∀ i, w3.cell? ⟨W2.heap.size, i, none⟩ = wr.cell? ⟨W2.heap.size, i, none⟩ := fun i => by unfold World.cell?; rw [hkeep]
                rw [hcell]
                exact HNM.out j hj
              case measure => simp [intOf]; omega
            · clear hnm
              go_wp2
              go_roundw
              case rel => exact ⟨k2 + 1, by omega, by go_num, HI3.out.drop, HB3.out⟩
              case measure => simp [intOf]; omega
        · have e2 : k2 = nd := by omega
          subst e2
          have HLK := HLh.out E _ _ _ _ _ wr HI2.out
          go_wp2_with fail
          refine HLK.mono ?_
          rintro e w3 ⟨rfl, hb3⟩
          go_wp2
          go_ret
          exact ⟨rfl, HB2.out.trans (hb3.mono hnr2)⟩
end Go.Proofs.YtdhgebdbiehchaaGreatDoor
namespace Go.Proofs.YtdhgebdbiehchaaGreatDoor
open Go.RowKit Go.Maps
set_option linter.unusedSimpArgs false
set_option linter.unusedVariables false

theorem markC_get {s : ByteArray} {n q : Nat} (h : q < n) : (markC s n)[q * 2]? = some (.string s) ∧ (markC s n)[q * 2 + 1]? = some (.string ⟨#[]⟩) := by
  induction n generalizing q with
  | zero => omega
  | succ n ih =>
    cases q with
    | zero => exact ⟨rfl, rfl⟩
    | succ q =>
      have := ih (q := q) (by omega)
      rw [show (q + 1) * 2 = q * 2 + 2 by omega]
      exact this
set_option maxRecDepth 100000 in
set_option maxHeartbeats 3200000 in
theorem looks_true : Looks true := fun E n bw nd c Fr w hI => by
  obtain ⟨κ, ds, P, ls, h1, h2, h3, h4, h5, h6, h7⟩ := hI
  have hm := h1.marks
  obtain ⟨ai, ci, hiv⟩ := own_len hm.is
  obtain ⟨am, cm, hmv⟩ := own_len hm.im
  have k1 : w.cell? ⟨bw, 1, none⟩ = some P.isv := h1.box.cell (j := 1) rfl
  have k2 : w.cell? ⟨bw, 2, none⟩ = some P.imv := h1.box.cell (j := 2) rfl
  have hbl := h1.box.lt
  rw [hiv] at k1
  rw [hmv] at k2
  have HK : Hid (∀ wr : World, Below w.heap.size w wr → wr.cell? ⟨bw, 1, none⟩ = some (.slice ai ls.length ci) ∧ wr.cell? ⟨bw, 2, none⟩ = some (.slice am ls.length cm)) := fun wr hb => ⟨(hb.cell (p := ⟨bw, 1, none⟩) hbl).trans k1, (hb.cell (p := ⟨bw, 2, none⟩) hbl).trans k2⟩
  have HM : Hid (MarksAt w κ n bw P.isv P.imv ls) := hm
  have hlb : ls.length ≤ 9223372036854775807 := by
    rcases hm.is.2 with ⟨_, e⟩ | ⟨g, cap, cur, _, _, _, q1, q2, _⟩
    · omega
    · unfold maxLen at q2; omega
  clear h1 h2 h3 h4 h5 h6 h7 hm k1 k2
  go_enter Tryz.func34, Tryz.ntmps34
  go_wp2
  go_loopw [3] (fun i wr => ∃ k : Nat, k ≤ ls.length ∧ i = .int .i64 k ∧ Below w.heap.size w wr) (fun i _ => ls.length - (intOf i).toNat)
  case atStart => exact ⟨0, by omega, rfl, Below.refl _ _⟩
  case round =>
    obtain ⟨k, hk, rfl, hb⟩ := hrel
    obtain ⟨j1, j2⟩ := HK.out wr hb
    have HB : Hid (Below w.heap.size w wr) := hb
    by_cases hlt : k < ls.length
    · obtain ⟨gi, cpi, hv1, _, hgi, hci⟩ := own_cellsN HM.out.is (by omega)
      obtain ⟨gm, cpm, hv2, _, hgm, hcm⟩ := own_cellsN HM.out.im (by omega)
      rw [hiv] at hv1
      rw [hmv] at hv2
      have ea : ai = some ⟨gi, 0, none⟩ := by injection hv1
      have eb : am = some ⟨gm, 0, none⟩ := by injection hv2
      subst ea
      subst eb
      obtain ⟨p, cp, hp, hNb, hrow⟩ := HM.out.each ls[k] (List.getElem_mem hlt)
      have i1 : w.cell? ⟨gi, k, none⟩ = some ls[k].v := by rw [hci k (by omega)]; simp [hlt]
      have i2 : w.cell? ⟨gm, k, none⟩ = some (.string ls[k].s) := by rw [hcm k (by omega)]; simp [hlt]
      rw [hp] at i1
      have HI : Hid (∀ wr : World, Below w.heap.size w wr → wr.cell? ⟨gi, k, none⟩ = some (.slice p ls[k].n cp) ∧ wr.cell? ⟨gm, k, none⟩ = some (.string ls[k].s)) := fun wr hb => ⟨(hb.cell (p := ⟨gi, k, none⟩) hgi).trans i1, (hb.cell (p := ⟨gm, k, none⟩) hgm).trans i2⟩
      clear i1 i2 hci hcm hv1 hv2 hp
      generalize ls[k].n = N at *
      generalize ls[k].s = s at *
      obtain ⟨W1, rfl⟩ : ∃ W1, W1 = wr := ⟨_, rfl⟩
      go_wp2
      go_loopw [4] (fun j wr => ∃ q : Nat, q ≤ N ∧ j = .int .i64 q ∧ Below w.heap.size w wr) (fun j _ => N - (intOf j).toNat)
      case atStart => exact ⟨0, by omega, rfl, HB.out⟩
      case round =>
        obtain ⟨q, hq, rfl, hb2⟩ := hrel
        obtain ⟨l1, l2⟩ := HK.out wr hb2
        obtain ⟨n1, n2⟩ := HI.out wr hb2
        have HB2 : Hid (Below w.heap.size w wr) := hb2
        by_cases hlq : q < N
        · obtain ⟨g, cur, rfl, hcur, hmk, _⟩ := hrow (by omega)
          have hgl : g < w.heap.size := (Array.getElem?_eq_some_iff.1 hcur).1
          obtain ⟨mm1, mm2⟩ := markC_get (s := s) hlq
          have o1 : wr.cell? ⟨g, q * 2, none⟩ = some (.string s) := (hb2.cell (p := ⟨g, q * 2, none⟩) hgl).trans ((cell_of_row w g (q * 2) cur _ _ hcur).trans (hmk _ _ mm1))
          have o2 : wr.cell? ⟨g, q * 2 + 1, none⟩ = some (.string ⟨#[]⟩) := (hb2.cell (p := ⟨g, q * 2 + 1, none⟩) hgl).trans ((cell_of_row w g (q * 2 + 1) cur _ _ hcur).trans (hmk _ _ mm2))
          clear hmk mm1 mm2 hcur hb2
          go_wp2_with fail
          go_region
          all_goals
            go_wp2
            go_roundw
            case rel => exact ⟨q + 1, by omega, by go_num, HB2.out.drew⟩
            case measure => simp [intOf]; omega
        · clear hb2
          go_wp2
          go_roundw
          case rel => exact ⟨k + 1, by omega, by go_num, HB2.out⟩
          case measure => simp [intOf]; omega
    · clear hb
      go_wp2
      go_ret
      exact ⟨rfl, HB.out⟩
end Go.Proofs.YtdhgebdbiehchaaGreatDoor
namespace Go.Proofs.YtdhgebdbiehchaaGreatDoor
open Go.RowKit Go.Maps
set_option linter.unusedSimpArgs false
set_option linter.unusedVariables false

set_option maxRecDepth 100000 in
set_option maxHeartbeats 1600000 in
theorem step_made (m : Bool) (o : OpV) (hk : o.kind = 5) : Steps m o := by
  intro E n bw nd c Fr w hI hnd hcb hH
  obtain ⟨kind, at', x, y, s, t, u, c0, c1, c2⟩ := o
  dsimp only at hk
  subst hk
  have HM : Hid (∀ w1 : World, Below w.heap.size w w1 → Calls Tryz.prog 64 #[.pointer (some ⟨bw, 0, none⟩), .int .i64 x] w1 fun e w' => e = .returned (.bool true) ∧ (∃ nd', nd' ≤ nd + 1 ∧ Inv E n bw m nd' c Fr w') ∧ Chg (Mv n Fr) w w') := fun w1 hb =>
    (made_any E n bw nd c m Fr x w1 (hI.below hb) hnd).mono fun e w' ⟨a1, a2, a3⟩ => ⟨a1, a2, chg_mv hb a3⟩
  clear hI hH
  unfold OpV.val
  dsimp only
  go_enter Tryz.func33, Tryz.ntmps33
  go_wp2_with (first | (go_at_call 64; refine (HM.out _ ?_).mono ?_; exact (Below.refl _ _).alloc (Nat.le_refl _) _; rintro e w2 ⟨rfl, hi, hc⟩; have HI2 : Hid (∃ nd', nd' ≤ nd + 1 ∧ Inv E n bw m nd' c Fr w2) := hi; have HC2 : Hid (Chg (Mv n Fr) w w2) := hc; clear hi hc))
  go_ret
  obtain ⟨nd', a1, a2⟩ := HI2.out
  exact ⟨rfl, ⟨nd', c, a1, by omega, fun e => absurd e (by decide), a2⟩, HC2.out⟩
theorem steps_writes (m : Bool) (o : OpV) (h5 : 5 ≤ o.kind) (h10 : o.kind ≤ 10) (hs : o.sized) : Steps m o := by
  rcases (show o.kind = 5 ∨ o.kind = 6 ∨ o.kind = 7 ∨ o.kind = 8 ∨ o.kind = 9 ∨ o.kind = 10 by omega) with hk | hk | hk | hk | hk | hk
  · exact step_made m o hk
  · exact step_does m o (by omega) (by omega) (does_create m o hk)
  · exact step_does m o (by omega) (by omega) (does_put m o hk)
  · exact step_does m o (by omega) (by omega) (does_delete m o hk)
  · exact step_does m o (by omega) (by omega) (does_flush m o hk)
  · exact step_does m o (by omega) (by omega) (does_file m o hk hs.1)
end Go.Proofs.YtdhgebdbiehchaaGreatDoor
