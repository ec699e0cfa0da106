/- The contracts of the document's store: Create, writes, Flush. The contracts of the document's store: writes, Flush, File. The contract of the document's store: Add. The contract of the document's store: Add, where a log is open. The statement's does: Create, Put, Delete, Flush. The contract of the document's store: File. The statement's asked: File; its does, where asked is called. -/
import Derived.Test.YtdhgebdbiehchaaGreatDoorB38
namespace Go.Proofs.YtdhgebdbiehchaaGreatDoor
open Go.RowKit Go.Maps
set_option linter.unusedSimpArgs false
set_option linter.unusedVariables false

theorem rcreate_bad {d : Dk} {a b c : Int} (h : wellB a b c = false) : d.create a b c = (1, d) := by unfold Dk.create; rw [if_pos h]
theorem rcreate_down {d : Dk} {a b c : Int} (h : wellB a b c = true) (hd : d.down = true) : d.create a b c = (7, d) := by unfold Dk.create; rw [if_neg (by simp [h]), if_pos hd]
theorem rcreate_there {d : Dk} {a b c : Int} (h : wellB a b c = true) (hd : d.down = false) (hf : d.f0.isSome = true) : d.create a b c = (5, d) := by unfold Dk.create; rw [if_neg (by simp [h]), if_neg (by simp [hd]), if_pos hf]
theorem rcreate_go {d : Dk} {a b c : Int} (h : wellB a b c = true) (hd : d.down = false) (hf : d.f0.isSome = false) : d.create a b c = d.opening a.toNat [stMake 0, stAppend 0 (headL a.toNat b.toNat c.toNat), stSync 0] := by unfold Dk.create; rw [if_neg (by simp [h]), if_neg (by simp [hd]), if_neg (by simp [hf])]
set_option maxRecDepth 100000 in
set_option maxHeartbeats 1600000 in
theorem rcreate_any (G : Nat → Prop) (b : Nat) (d : Dk) (q : RfP) (x y z : Int) (w : World) (hR : RefAt w G b d q) (hok : DkOk d) (hGz : ∀ k, G k → k < w.heap.size) :
    Calls Tryz.prog 118 #[.pointer (some ⟨b, 0, none⟩), .agg #[.int .i64 x, .int .i64 y, .int .i64 z]] w fun e w' => e = .returned (.int .i64 (d.create x y z).1) ∧ RDone G b w (d.create x y z).2 w' := by
  have HWL : Hid (∀ wx : World, _) := fun wx => well_any x y z wx
  have HS0 : Hid (∀ w1 : World, Below w.heap.size w w1 → RDone G b w d w1) := fun w1 hb => RDone.of_below hR hb
  have HB0 : Hid (∀ w1 : World, Below (w.alloc (.cells #[.int .i64 x, .int .i64 y, .int .i64 z] 29)).heap.size (w.alloc (.cells #[.int .i64 x, .int .i64 y, .int .i64 z] 29)) w1 → Below w.heap.size w w1) := fun w1 hb => ((Below.refl _ _).alloc (Nat.le_refl _) _).trans (hb.mono (by simp))
  have HXC : Hid (∀ w1 : World, Below (w.alloc (.cells #[.int .i64 x, .int .i64 y, .int .i64 z] 29)).heap.size (w.alloc (.cells #[.int .i64 x, .int .i64 y, .int .i64 z] 29)) w1 → Bx w1 w.heap.size #[.int .i64 x, .int .i64 y, .int .i64 z] 29) := fun w1 hb => (bx_new w _ _ rfl).below hb (by simp)
  have HCL : Hid (∀ w1 : World, Below w.heap.size w w1 → w1.cell? ⟨b, 1, none⟩ = some (.bool d.down) ∧ w1.cell? ⟨b, 2, none⟩ = some (.bool d.f0.isSome)) := fun w1 hb => by
    have := hR.box.below hb hR.box.lt
    exact ⟨this.cell (j := 1) rfl, this.cell (j := 2) rfl⟩
  cases hw : wellB x y z with
  | false =>
    have HE : Hid (d.create x y z = (1, d)) := rcreate_bad hw
    rw [hw] at HWL
    clear hR hok hGz
    go_enter Tryz.func118, Tryz.ntmps118
    go_wp2_with (first | (go_at_call 171; refine (HWL.out _).mono ?_; rintro e w1 ⟨rfl, hb⟩; have HB := HB0.out w1 hb; clear hb))
    go_ret
    exact ⟨by rw [HE.out]; rfl, by rw [HE.out]; exact HS0.out _ HB⟩
  | true =>
    rw [hw] at HWL
    cases hd : d.down with
    | true =>
      have HE : Hid (d.create x y z = (7, d)) := rcreate_down hw hd
      rw [hd] at HCL
      clear hR hok hGz
      go_enter Tryz.func118, Tryz.ntmps118
      go_wp2_with (first | (go_at_call 171; refine (HWL.out _).mono ?_; rintro e w1 ⟨rfl, hb⟩; have HB : Hid (Below w.heap.size w w1) := HB0.out w1 hb; obtain ⟨k1, k2⟩ := HCL.out w1 HB.out; clear hb))
      go_ret
      exact ⟨by rw [HE.out]; rfl, by rw [HE.out]; exact HS0.out _ HB.out⟩
    | false =>
      rw [hd] at HCL
      cases hf : d.f0.isSome with
      | true =>
        have HE : Hid (d.create x y z = (5, d)) := rcreate_there hw hd hf
        rw [hf] at HCL
        clear hR hok hGz
        go_enter Tryz.func118, Tryz.ntmps118
        go_wp2_with (first | (go_at_call 171; refine (HWL.out _).mono ?_; rintro e w1 ⟨rfl, hb⟩; have HB : Hid (Below w.heap.size w w1) := HB0.out w1 hb; obtain ⟨k1, k2⟩ := HCL.out w1 HB.out; clear hb))
        go_ret
        exact ⟨by rw [HE.out]; rfl, by rw [HE.out]; exact HS0.out _ HB.out⟩
      | false =>
        rw [hf] at HCL
        have HE := rcreate_go hw hd hf
        have hwb : 0 ≤ x ∧ x ≤ 400 ∧ 0 ≤ y ∧ y ≤ 4294967295 ∧ 0 ≤ z ∧ z ≤ 32 := by unfold wellB at hw; simp at hw; omega
        obtain ⟨x, rfl⟩ : ∃ n : Nat, x = n := ⟨x.toNat, by omega⟩
        rw [opening_eq] at HE
        have HHD : Hid (∀ wx : World, Calls Tryz.prog 61 #[.agg #[.int .i64 (x : Int), .int .i64 y, .int .i64 z]] wx fun e w' => e = .returned (.string (S (headL x y.toNat z.toNat))) ∧ Below wx.heap.size wx w') := fun wx => head_any x y z wx (by omega) (by omega) (by omega) (by omega) (by omega) (by omega)
        have HMK : Hid (∀ w1 : World, Below w.heap.size w w1 → Calls Tryz.prog 172 #[.pointer (some ⟨b, 0, none⟩), .int .i64 0, .string (S (headL x y.toNat z.toNat))] w1 fun e w' => e = .returned (.int .i64 (d.steps [stMake 0, stAppend 0 (headL x y.toNat z.toNat), stSync 0]).1) ∧ RDone G b w1 (d.steps [stMake 0, stAppend 0 (headL x y.toNat z.toNat), stSync 0]).2 w') := fun w1 hb =>
          makes_any G b d q 0 (headL x y.toNat z.toNat) w1 (hR.below hb) hok (by omega) (by rw [headL_length]; omega)
        have HE2 : Hid (d.create (x : Int) y z = if (d.steps [stMake 0, stAppend 0 (headL x y.toNat z.toNat), stSync 0]).1 = 0 then (0, (d.steps [stMake 0, stAppend 0 (headL x y.toNat z.toNat), stSync 0]).2.opens x) else d.steps [stMake 0, stAppend 0 (headL x y.toNat z.toNat), stSync 0]) := HE
        clear HE
        generalize headL x y.toNat z.toNat = hd14 at *
        generalize d.steps [stMake 0, stAppend 0 hd14, stSync 0] = r at *
        obtain ⟨re, rd⟩ := r
        simp only at HE2 HMK
        have HXK : Hid (∀ w1 w2 : World, Below (w.alloc (.cells #[.int .i64 (x : Int), .int .i64 y, .int .i64 z] 29)).heap.size (w.alloc (.cells #[.int .i64 (x : Int), .int .i64 y, .int .i64 z] 29)) w1 → RDone G b w1 rd w2 → w2.cell? ⟨w.heap.size, 0, none⟩ = some (.int .i64 (x : Int)) ∧ w2.cell? ⟨w.heap.size, 1, none⟩ = some (.int .i64 y) ∧ w2.cell? ⟨w.heap.size, 2, none⟩ = some (.int .i64 z)) := fun w1 w2 hb h2 => by
          have := (HXC.out w1 hb).chg h2.2 (fun hg => absurd (hGz _ hg) (by omega))
          exact ⟨this.cell (j := 0) rfl, this.cell (j := 1) rfl, this.cell (j := 2) rfl⟩
        by_cases h0 : re = 0
        · subst h0
          have HE3 : Hid (d.create (x : Int) y z = (0, rd.opens x)) := HE2
          have HOP : Hid (∀ w1 w2 : World, Below w.heap.size w w1 → RDone G b w1 rd w2 → Calls Tryz.prog 173 #[.pointer (some ⟨b, 0, none⟩), .agg #[.int .i64 (x : Int), .int .i64 y, .int .i64 z]] w2 fun e w' => e = .returned (.tuple #[]) ∧ RDone G b w (rd.opens x) w') := fun w1 w2 hb h => by
            have h' := h
            obtain ⟨⟨q1, h1⟩, h2⟩ := h'
            exact (opens_any _ b rd q1 x y z w2 h1).mono fun e w' ⟨a1, a2⟩ => ⟨a1, RDone.later hb (h.then a2)⟩
          clear hR hok hGz HE2 HS0
          go_enter Tryz.func118, Tryz.ntmps118
          go_wp2_with (first | (go_at_call 171; refine (HWL.out _).mono ?_; rintro e w1 ⟨rfl, hb⟩; have HB : Hid (Below w.heap.size w w1) := HB0.out w1 hb; have hx := HXC.out w1 hb; have x0 := hx.cell (j := 0) rfl; have x1 := hx.cell (j := 1) rfl; have x2 := hx.cell (j := 2) rfl; have HBA : Hid (Below _ _ w1) := hb; obtain ⟨k1, k2⟩ := HCL.out w1 HB.out; clear hb hx) | (go_at_call 61; refine (HHD.out _).mono ?_; rintro e w2 ⟨rfl, hb⟩; have HB2 : Hid (Below w.heap.size w w2) := HB.out.trans (hb.mono HB.out.size); have HBA2 : Hid (Below _ _ w2) := HBA.out.trans (hb.mono HBA.out.size); clear hb) | (go_at_call 172; refine (HMK.out w2 HB2.out).mono ?_; rintro e w3 ⟨rfl, hd3⟩; obtain ⟨y0, y1, y2⟩ := HXK.out w2 w3 HBA2.out hd3; have HD3 : Hid (RDone G b w2 rd w3) := hd3; clear hd3) | (go_at_call 173; refine (HOP.out w2 w3 HB2.out HD3.out).mono ?_; rintro e w4 ⟨rfl, hd4⟩; have HD4 : Hid (RDone G b w (rd.opens x) w4) := hd4; clear hd4))
          go_ret
          exact ⟨by rw [HE3.out]; rfl, by rw [HE3.out]; exact HD4.out⟩
        · have HE3 : Hid (d.create (x : Int) y z = (re, rd)) := by
            have := HE2.out
            rw [if_neg h0] at this
            exact this
          clear hR hok hGz HE2 HS0
          go_enter Tryz.func118, Tryz.ntmps118
          go_wp2_with (first | (go_at_call 171; refine (HWL.out _).mono ?_; rintro e w1 ⟨rfl, hb⟩; have HB : Hid (Below w.heap.size w w1) := HB0.out w1 hb; have hx := HXC.out w1 hb; have x0 := hx.cell (j := 0) rfl; have x1 := hx.cell (j := 1) rfl; have x2 := hx.cell (j := 2) rfl; obtain ⟨k1, k2⟩ := HCL.out w1 HB.out; clear hb hx) | (go_at_call 61; refine (HHD.out _).mono ?_; rintro e w2 ⟨rfl, hb⟩; have HB2 : Hid (Below w.heap.size w w2) := HB.out.trans (hb.mono HB.out.size); clear hb) | (go_at_call 172; refine (HMK.out w2 HB2.out).mono ?_; rintro e w3 ⟨rfl, hd3⟩; have HD3 : Hid (RDone G b w2 rd w3) := hd3; clear hd3))
          go_ret
          exact ⟨by rw [HE3.out]; rfl, by rw [HE3.out]; exact RDone.later HB2.out HD3.out⟩
end Go.Proofs.YtdhgebdbiehchaaGreatDoor
namespace Go.Proofs.YtdhgebdbiehchaaGreatDoor
open Go.RowKit Go.Maps
set_option linter.unusedSimpArgs false
set_option linter.unusedVariables false

def entsT (ws : List Ent) : List (Bool × ByteArray × ByteArray) := ws.map fun e => (e.put, S e.key, S e.val)
theorem entB_L (e : Ent) : entryL e.put (S e.key).data.toList (S e.val).data.toList = entB e := by
  unfold entryL entB
  rw [show (S e.key).data.toList = e.key from rfl, show (S e.val).data.toList = e.val from rfl]
  have f : ∀ n, lowL n 1 = [UInt8.ofNat n] := fun n => by
    simp [lowL]
    apply UInt8.toNat_inj.1
    simp
  rw [f, f]
  cases e.put <;> simp
theorem entsT_L (ws : List Ent) : entsL (entsT ws) = entsB ws := by
  induction ws with
  | nil => rfl
  | cons e ws ih =>
    have h1 : entsL (entsT (e :: ws)) = entryL e.put (S e.key).data.toList (S e.val).data.toList ++ entsL (entsT ws) := rfl
    rw [h1, ih, entB_L]
    simp [entsB]
theorem blockT_L (ws : List Ent) : blockL (entsT ws) = blockB ws := by
  unfold blockL blockB
  rw [entsT_L, show (entsT ws).length = ws.length by simp [entsT]]
theorem ent_sizes {ws : List Ent} (h : ∀ e ∈ ws, EntOk e) : (entsB ws).length ≤ 53 * ws.length := by
  induction ws with
  | nil => simp [entsB]
  | cons e ws ih =>
    have h1 := h e (by simp)
    have h2 := ih (fun x hx => h x (by simp [hx]))
    have : entsB (e :: ws) = entB e ++ entsB ws := by simp [entsB]
    rw [this, List.length_append]
    have : (entB e).length = 3 + e.key.length + e.val.length := by simp [entB]; omega
    obtain ⟨a, b, c, _⟩ := h1
    simp
    omega
theorem refBlock_row {W : World} {v : Value} {ws : List Ent} (h : W.ownsRow 0 114 3 v ws.length (cellsE ws)) (hne : ws ≠ []) (hok : ∀ e ∈ ws, EntOk e) (hl : ws.length ≤ 255) :
    Calls Tryz.prog 62 #[v] W fun e w' => e = .returned (.string (S (blockB ws))) ∧ Below W.heap.size W w' := by
  have hpos : 0 < ws.length := by cases ws with | nil => exact absurd rfl hne | cons _ _ => simp
  obtain ⟨g, cap, rfl, _, hg, hc⟩ := own_cellsN h hpos
  have el : (entsT ws).length = ws.length := by simp [entsT]
  have := block_any g cap (entsT ws) W hg ?_ (by omega) ?_
  · rw [blockT_L, el] at this
    exact this
  · intro i hi
    have hi' : i < ws.length := by omega
    obtain ⟨a, b, c⟩ := cellsE_get hi'
    have e1 : (entsT ws)[i] = (ws[i].put, S ws[i].key, S ws[i].val) := by simp [entsT]
    rw [e1]
    exact ⟨(hc _ (by omega)).trans a, (hc _ (by omega)).trans b, (hc _ (by omega)).trans c⟩
  · intro e he
    simp [entsT] at he
    obtain ⟨x, hx, rfl⟩ := he
    obtain ⟨a, b, c, _⟩ := hok x hx
    simp only [S_size]
    omega
theorem RefAt.emptied {W : World} {G : Nat → Prop} {b : Nat} {d : Dk} {q : RfP} (h : RefAt W G b d q) : RefAt (W.setCell ⟨b, 17, none⟩ (.slice none 0 0)) G b { d with waits := [] } (nilP q) :=
  ⟨h.box.setj 17 _, World.ownsRow_nil _ _ _ _, fun e => (by cases e), h.left, h.keep, h.blk, h.gb, fun g e => (by cases e)⟩
theorem rwrites_none (b : Nat) (d : Dk) (q : RfP) (w : World) (G : Nat → Prop) (hR : RefAt w G b d q) (hw : d.waits = []) :
    Calls Tryz.prog 174 #[.pointer (some ⟨b, 0, none⟩)] w fun e w' => e = .returned (.int .i64 0) ∧ w' = w := by
  have c17 : w.cell? ⟨b, 17, none⟩ = some q.v := hR.box.cell (j := 17) rfl
  obtain ⟨a, cp, hv⟩ := own_len hR.row
  rw [hv, hw] at c17
  have c17' : w.cell? ⟨b, 17, none⟩ = some (.slice a 0 cp) := c17
  clear c17 hv hR
  go_enter Tryz.func174, Tryz.ntmps174
  go_wp2
  go_ret
  exact ⟨rfl, rfl⟩
set_option maxRecDepth 100000 in
set_option maxHeartbeats 1600000 in
theorem rwrites_some (G : Nat → Prop) (b : Nat) (d : Dk) (q : RfP) (w : World) (hR : RefAt w G b d q) (hok : DkOk d) (hw : d.waits ≠ []) (hf : d.f0.isSome = true) :
    Calls Tryz.prog 174 #[.pointer (some ⟨b, 0, none⟩)] w fun e w' => e = .returned (.int .i64 d.write.1) ∧ RDone G b w d.write.2 w' := by
  have hpos : 0 < d.waits.length := by
    cases hc : d.waits with
    | nil => exact absurd hc hw
    | cons _ _ => simp
  have hl := hok.most
  have hsz := ent_sizes hok.ents
  have hbl : (blockB d.waits).length ≤ 1000000 := by unfold blockB; rw [sealL_length]; simp [lowL_length]; omega
  have HBK := refBlock_row hR.row hw hok.ents hl
  obtain ⟨g, cap, hv, _, _, _⟩ := own_cellsN hR.row hpos
  have c17 : w.cell? ⟨b, 17, none⟩ = some q.v := hR.box.cell (j := 17) rfl
  rw [hv] at c17 HBK
  have hgb := hR.gb
  have HAP : Hid (∀ w1 : World, Below w.heap.size w w1 → Calls Tryz.prog 199 #[.pointer (some ⟨b, 0, none⟩), .int .i64 0, .string (S (blockB d.waits))] w1 fun e w' => e = .returned (.int .i64 (d.steps [stAppend 0 (blockB d.waits)]).1) ∧ RDone G b w (d.steps [stAppend 0 (blockB d.waits)]).2 w') := fun w1 hb => by
    rw [steps_one1]
    exact (appends_any G b d q 0 (blockB d.waits) w1 (hR.below hb) hok (by omega) hf hbl).mono fun e w' ⟨a1, a2⟩ => ⟨a1, RDone.later hb a2⟩
  have HWE := write_eq d
  have hnz : ¬ ((d.waits.length : Int) = 0) := by omega
  have hnz2 : d.waits.length ≠ 0 := by omega
  generalize d.steps [stAppend 0 (blockB d.waits)] = r at *
  obtain ⟨re, rd⟩ := r
  simp only at HWE HAP
  clear hsz hbl
  generalize blockB d.waits = bl at *
  generalize d.waits.length = n at *
  by_cases h0 : re = 0
  · subst h0
    rw [if_pos rfl] at HWE
    have HE : Hid (d.write = (0, { rd with waits := [] })) := HWE
    have HCL : Hid (∀ w2 : World, RDone G b w rd w2 → ∃ q2, w2.cell? ⟨b, 17, none⟩ = some (RfP.v q2) ∧ w2.frozen? ⟨b, 17, none⟩ = false ∧ RefAt w2 (Fx G w w2) b rd q2) := fun w2 h => by
      obtain ⟨⟨q2, h1⟩, h2⟩ := h
      exact ⟨q2, h1.box.cell (j := 17) rfl, h1.box.frozen 17, h1⟩
    clear hR hok hw hf HWE hv
    go_enter Tryz.func174, Tryz.ntmps174
    go_wp2_with (first | (go_at_call 62; refine HBK.mono ?_; rintro e w1 ⟨rfl, hb⟩; have HB : Hid (Below w.heap.size w w1) := hb; clear hb) | (go_at_call 199; refine (HAP.out w1 HB.out).mono ?_; rintro e w2 ⟨rfl, hd2⟩; obtain ⟨q2, k17, kf17, hq2⟩ := HCL.out w2 hd2; have HD2 : Hid (RDone G b w rd w2) := hd2; have HQ2 : Hid (RefAt w2 (Fx G w w2) b rd q2) := hq2; clear hd2 hq2))
    go_ret
    refine ⟨by rw [HE.out]; rfl, ?_⟩
    rw [HE.out]
    exact HD2.out.at HQ2.out.emptied (grown_setB _ _ _ _) hgb (by simp)
  · rw [if_neg h0] at HWE
    have HE : Hid (d.write = (re, rd)) := HWE
    clear hR hok hw hf HWE hv
    go_enter Tryz.func174, Tryz.ntmps174
    go_wp2_with (first | (go_at_call 62; refine HBK.mono ?_; rintro e w1 ⟨rfl, hb⟩; have HB : Hid (Below w.heap.size w w1) := hb; clear hb) | (go_at_call 199; refine (HAP.out w1 HB.out).mono ?_; rintro e w2 ⟨rfl, hd2⟩; have HD2 : Hid (RDone G b w rd w2) := hd2; clear hd2))
    go_ret
    exact ⟨by rw [HE.out]; rfl, by rw [HE.out]; exact HD2.out⟩
theorem steps_f0' {d : Dk} {t : List UInt8} (h : d.f0.isSome = true) : d.write.2.f0.isSome = true := by
  have := steps_f0 h [stAppend 0 (blockB d.waits)] (by intro s hs; simp at hs; subst hs; exact fine_append _ _)
  rw [write_eq]
  split
  · exact this
  · exact this
set_option maxRecDepth 100000 in
set_option maxHeartbeats 1600000 in
theorem rflush_any (G : Nat → Prop) (b : Nat) (d : Dk) (q : RfP) (w : World) (hR : RefAt w G b d q) (hok : DkOk d) :
    Calls Tryz.prog 120 #[.pointer (some ⟨b, 0, none⟩)] w fun e w' => e = .returned (.int .i64 d.flush.1) ∧ RDone G b w d.flush.2 w' := by
  have c1 : w.cell? ⟨b, 1, none⟩ = some (.bool d.down) := hR.box.cell (j := 1) rfl
  have c13 : w.cell? ⟨b, 13, none⟩ = some (.bool d.opn.isSome) := hR.box.cell (j := 13) rfl
  have HS0 : Hid (RDone G b w d w) := RDone.refl hR
  cases hd : d.down with
  | true =>
    have HE : Hid (d.flush = (7, d)) := flush_down hd
    rw [hd] at c1
    clear hR hok
    go_enter Tryz.func120, Tryz.ntmps120
    go_wp2
    go_ret
    exact ⟨by rw [HE.out]; rfl, by rw [HE.out]; exact HS0.out⟩
  | false =>
    rw [hd] at c1
    cases ho : d.opn with
    | none =>
      have HE : Hid (d.flush = (2, d)) := flush_none hd ho
      rw [ho] at c13
      have c13' : w.cell? ⟨b, 13, none⟩ = some (.bool false) := c13
      clear hR hok c13
      go_enter Tryz.func120, Tryz.ntmps120
      go_wp2
      go_ret
      exact ⟨by rw [HE.out]; rfl, by rw [HE.out]; exact HS0.out⟩
    | some blk =>
      rw [ho] at c13
      have c13' : w.cell? ⟨b, 13, none⟩ = some (.bool true) := c13
      have hf := (hok.opn blk ho).1
      cases hwe : d.waits.isEmpty with
      | true =>
        have hwn : d.waits = [] := List.isEmpty_iff.1 hwe
        have HE : Hid (d.flush = d.one (stSync 0)) := by show _ = _; rw [flush_sync hd ho hwe, steps_one1]
        have HWR := rwrites_none b d q w G hR hwn
        have HSY := syncs_any G b d q 0 w hR hok (by omega) hf
        generalize d.one (stSync 0) = r at *
        clear hR hok c13 HS0
        go_enter Tryz.func120, Tryz.ntmps120
        go_wp2_with (first | (go_at_call 174; refine HWR.mono ?_; rintro e w ⟨rfl, rfl⟩) | (go_at_call 175; refine HSY.mono ?_; rintro e w2 ⟨rfl, hd2⟩; have HD2 : Hid _ := hd2; clear hd2))
        go_ret
        exact ⟨by rw [HE.out]; rfl, by rw [HE.out]; exact HD2.out⟩
      | false =>
        have hne : d.waits ≠ [] := by intro e; rw [e] at hwe; cases hwe
        have HWR := rwrites_some G b d q w hR hok hne hf
        have HFL := flush_write hd ho hwe
        have hfine := write_fine hok hd
        have hf2 := steps_f0' (d := d) (t := []) hf
        generalize d.write = r at *
        obtain ⟨re, rd⟩ := r
        simp only at HFL hfine HWR hf2
        by_cases h0 : re = 0
        · subst h0
          rw [if_pos rfl, steps_one1] at HFL
          obtain ⟨f1, f2, f3, f4⟩ := hfine rfl
          have HE : Hid (d.flush = rd.one (stSync 0)) := HFL
          have HSY : Hid (∀ w1 : World, RDone G b w rd w1 → Calls Tryz.prog 175 #[.pointer (some ⟨b, 0, none⟩), .int .i64 0] w1 fun e w' => e = .returned (.int .i64 (rd.one (stSync 0)).1) ∧ RDone G b w (rd.one (stSync 0)).2 w') := fun w1 h => by
            have h' := h
            obtain ⟨⟨q1, h1⟩, h2⟩ := h'
            exact (syncs_any _ b rd q1 0 w1 h1 f1 (by omega) hf2).mono fun e w' ⟨a1, a2⟩ => ⟨a1, h.then a2⟩
          generalize rd.one (stSync 0) = r at *
          clear hR hok c13 HS0 HFL hfine f1 f2 f3 f4 hf2
          go_enter Tryz.func120, Tryz.ntmps120
          go_wp2_with (first | (go_at_call 174; refine HWR.mono ?_; rintro e w1 ⟨rfl, hd1⟩; have HD1 : Hid (RDone G b w rd w1) := hd1; clear hd1) | (go_at_call 175; refine (HSY.out w1 HD1.out).mono ?_; rintro e w2 ⟨rfl, hd2⟩; have HD2 : Hid (RDone G b w r.2 w2) := hd2; clear hd2))
          go_ret
          exact ⟨by rw [HE.out]; rfl, by rw [HE.out]; exact HD2.out⟩
        · rw [if_neg h0] at HFL
          have HE : Hid (d.flush = (re, rd)) := HFL
          clear hR hok c13 HS0 HFL hfine hf2
          go_enter Tryz.func120, Tryz.ntmps120
          go_wp2_with (first | (go_at_call 174; refine HWR.mono ?_; rintro e w1 ⟨rfl, hd1⟩; have HD1 : Hid (RDone G b w rd w1) := hd1; clear hd1))
          go_ret
          exact ⟨by rw [HE.out]; rfl, by rw [HE.out]; exact HD1.out⟩
end Go.Proofs.YtdhgebdbiehchaaGreatDoor
namespace Go.Proofs.YtdhgebdbiehchaaGreatDoor
open Go.RowKit Go.Maps
set_option linter.unusedSimpArgs false
set_option linter.unusedVariables false

theorem entsB_cat (ws : List Ent) (e : Ent) : entsB (ws ++ [e]) = entsB ws ++ entB e := by simp [entsB]
theorem entsB_take {ws : List Ent} {k : Nat} (h : k < ws.length) : (entsB (ws.take (k + 1))).length = (entsB (ws.take k)).length + (entB ws[k]).length := by
  rw [List.take_succ_eq_append_getElem h, entsB_cat, List.length_append]
theorem app_ent {W : World} {v : Value} {ws : List Ent} {en : Ent} {g0 : Nat} (h1 : W.ownsRow 0 114 3 v ws.length (cellsE ws)) (hg : ∀ j u, [Value.bool en.put, .string (S en.key), .string (S en.val)][j]? = some u → W.cell? ((⟨g0, 0, none⟩ : Addr).add j) = some u) (hl : ws.length ≤ 1000000) :
    ∃ g cap w', (Builtin.append_ #[115, 115] 115 #[v, .slice (some ⟨g0, 0, none⟩) 1 1]).run Tryz.prog W = .ok (.slice (some ⟨g, 0, none⟩) (ws.length + 1) cap) w' ∧
      w'.ownsRow 0 114 3 (.slice (some ⟨g, 0, none⟩) (ws ++ [en]).length cap) (ws ++ [en]).length (cellsE (ws ++ [en])) ∧ W.grownBy w' v.ownBlock ∧ (v.ownBlock = some g ∨ g = W.heap.size) ∧ g < w'.heap.size := by
  obtain ⟨i0, hi, hz0, hz1, hz2⟩ := info_parts info_ent
  obtain ⟨g, cap, w', a1, a2, a3, a4, a5⟩ := run_append_lies (P := Tryz.prog) W 115 115 0 114 i0 (.agg #[.bool false, .string ⟨#[]⟩, .string ⟨#[]⟩]) 3 40 Tryz.underlying115 hi hz0 hz1 hz2 rfl (by decide) v ws.length (cellsE ws) h1 ⟨g0, 0, none⟩ 1 1 [.bool en.put, .string (S en.key), .string (S en.val)] rfl hg (by simp [Value.oneCell']) (by omega) (by unfold maxLen; omega) (by omega) (Nat.zero_le _) _ rfl
  rw [← cellsE_snoc] at a2
  rw [List.length_append]
  exact ⟨g, cap, w', a1, a2, a3, a4, a5⟩
theorem RefAt.waited {W X : World} {G : Nat → Prop} {b : Nat} {d : Dk} {q : RfP} {en : Ent} {g cap : Nat} (h : RefAt W G b d q) (hX : W.grownBy X q.v.ownBlock) (ho : X.ownsRow 0 114 3 (.slice (some ⟨g, 0, none⟩) (d.waits ++ [en]).length cap) (d.waits ++ [en]).length (cellsE (d.waits ++ [en]))) (hat : q.v.ownBlock = some g ∨ W.heap.size ≤ g) (hg : g < X.heap.size) :
    RefAt (X.setCell ⟨b, 17, none⟩ (.slice (some ⟨g, 0, none⟩) (d.waits ++ [en]).length cap)) (Fx G W X) b { d with waits := d.waits ++ [en] } ⟨q.keep, q.c0, q.c1, q.c2, .slice (some ⟨g, 0, none⟩) (d.waits ++ [en]).length cap⟩ := by
  have hlt := h.box.lt
  have hne : (Value.slice (some ⟨g, 0, none⟩) (d.waits ++ [en]).length cap).ownBlock ≠ some b := by
    intro e
    have e' : g = b := by simpa [Value.ownBlock] using e
    rcases hat with h5 | h5
    · exact h.ne (by rw [h5, e'])
    · omega
  have hbx : Bx X b (refC d q) 273 := (hX.block b hlt (fun e => h.ne e.symm)).trans h.box
  refine ⟨hbx.setj 17 _, own_box (cs := refC d q) (t := 0) ho hne 17 _, hne, h.left, h.keep, h.blk, .inl h.gb, fun k e => ?_⟩
  have e' : g = k := by simpa [Value.ownBlock] using e
  subst e'
  rcases hat with h5 | h5
  · exact .inl (h.gv _ h5)
  · exact .inr ⟨h5, hg⟩
theorem RDone.waited {W0 W X Y : World} {G : Nat → Prop} {b : Nat} {d : Dk} {q : RfP} {en : Ent} {g cap : Nat} (hD : RDone G b W0 d W) (h : RefAt W (Fx G W0 W) b d q) (hb : Below W.heap.size W Y) (hX : Y.grownBy X q.v.ownBlock) (ho : X.ownsRow 0 114 3 (.slice (some ⟨g, 0, none⟩) (d.waits ++ [en]).length cap) (d.waits ++ [en]).length (cellsE (d.waits ++ [en]))) (hat : q.v.ownBlock = some g ∨ g = Y.heap.size) (hg : g < X.heap.size) :
    RDone G b W0 { d with waits := d.waits ++ [en] } (X.setCell ⟨b, 17, none⟩ (.slice (some ⟨g, 0, none⟩) (d.waits ++ [en]).length cap)) := by
  have hc := hD.2
  have hY := h.below hb
  have hR := RefAt.waited hY hX ho (hat.imp id (fun e => by omega)) hg
  have hzz : (X.setCell ⟨b, 17, none⟩ (.slice (some ⟨g, 0, none⟩) (d.waits ++ [en]).length cap)).heap.size = X.heap.size := by simp
  have z1 := hc.size
  have z2 := hb.size
  have z3 := hX.size
  refine ⟨⟨_, hR.mono ?_⟩, ?_⟩
  · rintro k ((hk | hk) | hk)
    · exact .inl hk
    · exact .inr ⟨hk.1, by rw [hzz]; omega⟩
    · exact .inr ⟨by omega, by rw [hzz]; exact hk.2⟩
  · have c1 := hc.trans0 hb
    have c2 : Chg G W0 X := c1.grown hX (fun k e => by
      rcases h.gv k e with h5 | h5
      · exact .inl h5
      · exact .inr h5.1)
    refine c2.set b 17 _ ?_
    rcases h.gb with h5 | h5
    · exact .inl h5
    · exact .inr h5.1
theorem radd_bad {d : Dk} {e : Ent} (h : e.key.length < 1 ∨ 20 < e.key.length ∨ 30 < e.val.length) : d.add e = (1, d) := by unfold Dk.add; rw [if_pos h]
theorem radd_down {d : Dk} {e : Ent} (h : ¬ (e.key.length < 1 ∨ 20 < e.key.length ∨ 30 < e.val.length)) (hd : d.down = true) : d.add e = (7, d) := by unfold Dk.add; rw [if_neg h, if_pos hd]
theorem radd_none {d : Dk} {e : Ent} (h : ¬ (e.key.length < 1 ∨ 20 < e.key.length ∨ 30 < e.val.length)) (hd : d.down = false) (ho : d.opn = none) : d.add e = (2, d) := by unfold Dk.add; rw [if_neg h, if_neg (by simp [hd]), ho]
theorem radd_fits {d : Dk} {e : Ent} {blk : Nat} (h : ¬ (e.key.length < 1 ∨ 20 < e.key.length ∨ 30 < e.val.length)) (hd : d.down = false) (ho : d.opn = some blk) (hf : d.fits blk e = true) : d.add e = (0, { d with waits := d.waits ++ [e] }) := by unfold Dk.add; rw [if_neg h, if_neg (by simp [hd]), ho]; simp only; rw [if_pos hf]
theorem radd_writes {d : Dk} {e : Ent} {blk : Nat} (h : ¬ (e.key.length < 1 ∨ 20 < e.key.length ∨ 30 < e.val.length)) (hd : d.down = false) (ho : d.opn = some blk) (hf : d.fits blk e = false) : d.add e = if d.write.1 = 0 then (0, { d.write.2 with waits := d.write.2.waits ++ [e] }) else d.write := by
  unfold Dk.add; rw [if_neg h, if_neg (by simp [hd]), ho]; simp only; rw [if_neg (by simp [hf])]
set_option maxRecDepth 100000 in
set_option maxHeartbeats 1600000 in
theorem radd_not (G : Nat → Prop) (b : Nat) (d : Dk) (q : RfP) (en : Ent) (w : World) (hR : RefAt w G b d q) (h : (en.key.length < 1 ∨ 20 < en.key.length ∨ 30 < en.val.length) ∨ d.down = true ∨ d.opn = none) :
    Calls Tryz.prog 119 #[.pointer (some ⟨b, 0, none⟩), .agg #[.bool en.put, .string (S en.key), .string (S en.val)]] w fun e w' => e = .returned (.int .i64 (d.add en).1) ∧ RDone G b w (d.add en).2 w' := by
  have HB : Hid (Below w.heap.size w (w.alloc (.cells #[.bool en.put, .string (S en.key), .string (S en.val)] 114))) := (Below.refl _ _).alloc (Nat.le_refl _) _
  have HS0 : Hid (RDone G b w d (w.alloc (.cells #[.bool en.put, .string (S en.key), .string (S en.val)] 114))) := RDone.of_below hR HB.out
  have hzk : (S en.key).size = en.key.length := S_size _
  have hzv : (S en.val).size = en.val.length := S_size _
  have c1 : w.cell? ⟨b, 1, none⟩ = some (.bool d.down) := hR.box.cell (j := 1) rfl
  have c13 : w.cell? ⟨b, 13, none⟩ = some (.bool d.opn.isSome) := hR.box.cell (j := 13) rfl
  have hbl := hR.box.lt
  by_cases hkb : keyB (S en.key) = true
  · have HK : Hid (∀ wx : World, Calls Tryz.prog 161 #[.string (S en.key)] wx fun e w' => e = .returned (.bool true) ∧ w' = wx) := fun wx => by have := key_any (S en.key) wx; rw [hkb] at this; exact this
    by_cases hv : 30 < en.val.length
    · have HE : Hid (d.add en = (1, d)) := radd_bad (.inr (.inr hv))
      have hvI : (30 : Int) < (en.val.length : Int) := by omega
      clear hR h hkb
      go_enter Tryz.func119, Tryz.ntmps119
      go_wp2_with (first | (go_at_call 161; refine (HK.out _).mono ?_; rintro e w1 ⟨rfl, rfl⟩))
      go_ret
      exact ⟨by rw [HE.out]; rfl, by rw [HE.out]; exact HS0.out⟩
    · have hgood : ¬ (en.key.length < 1 ∨ 20 < en.key.length ∨ 30 < en.val.length) := by
        unfold keyB at hkb
        simp at hkb
        omega
      have hvI : ¬ (30 : Int) < (en.val.length : Int) := by omega
      cases hd : d.down with
      | true =>
        have HE : Hid (d.add en = (7, d)) := radd_down hgood hd
        rw [hd] at c1
        clear hR h hkb hgood
        go_enter Tryz.func119, Tryz.ntmps119
        go_wp2_with (first | (go_at_call 161; refine (HK.out _).mono ?_; rintro e w1 ⟨rfl, rfl⟩))
        go_ret
        exact ⟨by rw [HE.out]; rfl, by rw [HE.out]; exact HS0.out⟩
      | false =>
        have ho : d.opn = none := by
          rcases h with h | h | h
          · exact absurd h hgood
          · rw [hd] at h; cases h
          · exact h
        have HE : Hid (d.add en = (2, d)) := radd_none hgood hd ho
        rw [hd] at c1
        rw [ho] at c13
        have c13' : w.cell? ⟨b, 13, none⟩ = some (.bool false) := c13
        clear hR h hkb hgood c13
        go_enter Tryz.func119, Tryz.ntmps119
        go_wp2_with (first | (go_at_call 161; refine (HK.out _).mono ?_; rintro e w1 ⟨rfl, rfl⟩))
        go_ret
        exact ⟨by rw [HE.out]; rfl, by rw [HE.out]; exact HS0.out⟩
  · have hkf : keyB (S en.key) = false := by simpa using hkb
    have HK : Hid (∀ wx : World, Calls Tryz.prog 161 #[.string (S en.key)] wx fun e w' => e = .returned (.bool false) ∧ w' = wx) := fun wx => by have := key_any (S en.key) wx; rw [hkf] at this; exact this
    have HE : Hid (d.add en = (1, d)) := radd_bad (by unfold keyB at hkb; simp at hkb; omega)
    clear hR h hkb hkf
    go_enter Tryz.func119, Tryz.ntmps119
    go_wp2_with (first | (go_at_call 161; refine (HK.out _).mono ?_; rintro e w1 ⟨rfl, rfl⟩))
    go_ret
    exact ⟨by rw [HE.out]; rfl, by rw [HE.out]; exact HS0.out⟩
end Go.Proofs.YtdhgebdbiehchaaGreatDoor
namespace Go.Proofs.YtdhgebdbiehchaaGreatDoor
open Go.RowKit Go.Maps
set_option linter.unusedSimpArgs false
set_option linter.unusedVariables false

theorem add_end {W0 Wr : World} {G : Nat → Prop} {b : Nat} {d : Dk} {q : RfP} (en : Ent) (hD : RDone G b W0 d Wr) (h : RefAt Wr (Fx G W0 Wr) b d q) (hl : d.waits.length ≤ 255) :
    ∃ g cap X, (Builtin.append_ #[115, 115] 115 #[q.v, .slice (some ⟨Wr.heap.size, 0, none⟩) 1 1]).run Tryz.prog (Wr.alloc (.cells #[.bool en.put, .string (S en.key), .string (S en.val)] 114)).drew = .ok (.slice (some ⟨g, 0, none⟩) (d.waits.length + 1) cap) X ∧
      X.cell? ⟨b, 17, none⟩ = some q.v ∧ X.frozen? ⟨b, 17, none⟩ = false ∧ Hid (RDone G b W0 { d with waits := d.waits ++ [en] } (X.setCell ⟨b, 17, none⟩ (.slice (some ⟨g, 0, none⟩) (d.waits.length + 1) cap))) := by
  have hb : Below Wr.heap.size Wr (Wr.alloc (.cells #[.bool en.put, .string (S en.key), .string (S en.val)] 114)).drew := ((Below.refl _ _).alloc (Nat.le_refl _) _).drew
  have hY := h.below hb
  obtain ⟨g, cap, X, a1, a2, a3, a4, a5⟩ := app_ent (en := en) (g0 := Wr.heap.size) hY.row (fun j u hu => cells_three_new Wr _ _ _ _ j u hu) (by omega)
  have hbx : Bx X b (refC d q) 273 := (a3.block b hY.box.lt (fun e => h.ne e.symm)).trans hY.box
  have hend := RDone.waited hD h hb a3 a2 a4 a5
  rw [List.length_append] at hend
  exact ⟨g, cap, X, a1, hbx.cell (j := 17) rfl, hbx.frozen 17, hend⟩
set_option maxRecDepth 100000 in
set_option maxHeartbeats 3200000 in
theorem radd_some (G : Nat → Prop) (b : Nat) (d : Dk) (q : RfP) (en : Ent) (blk : Nat) (w : World) (hR : RefAt w G b d q) (hok : DkOk d) (hGz : ∀ k, G k → k < w.heap.size) (hgood : ¬ (en.key.length < 1 ∨ 20 < en.key.length ∨ 30 < en.val.length)) (hd : d.down = false) (ho : d.opn = some blk) :
    Calls Tryz.prog 119 #[.pointer (some ⟨b, 0, none⟩), .agg #[.bool en.put, .string (S en.key), .string (S en.val)]] w fun e w' => e = .returned (.int .i64 (d.add en).1) ∧ RDone G b w (d.add en).2 w' := by
  obtain ⟨W, hW⟩ : ∃ W : World, W = w.alloc (.cells #[.bool en.put, .string (S en.key), .string (S en.val)] 114) := ⟨_, rfl⟩
  have hzW : W.heap.size = w.heap.size + 1 := by rw [hW]; simp
  have hBW : Below w.heap.size w W := by rw [hW]; exact (Below.refl _ _).alloc (Nat.le_refl _) _
  have hxW : Bx W w.heap.size #[.bool en.put, .string (S en.key), .string (S en.val)] 114 := by rw [hW]; exact bx_new _ _ _ rfl
  have HBB : Hid (∀ w1 : World, Below W.heap.size W w1 → Below w.heap.size w w1) := fun w1 hb => hBW.trans (hb.mono (by omega))
  have HRB : Hid (∀ w1 : World, Below W.heap.size W w1 → RefAt w1 G b d q) := fun w1 hb => hR.below (HBB.out w1 hb)
  have HXB : Hid (∀ w1 : World, Below W.heap.size W w1 → Bx w1 w.heap.size #[.bool en.put, .string (S en.key), .string (S en.val)] 114) := fun w1 hb => hxW.below hb (by omega)
  have hzk : (S en.key).size = en.key.length := S_size _
  have hzv : (S en.val).size = en.val.length := S_size _
  have hkb : keyB (S en.key) = true := by unfold keyB; simp; omega
  have HK : Hid (∀ wx : World, Calls Tryz.prog 161 #[.string (S en.key)] wx fun e w' => e = .returned (.bool true) ∧ w' = wx) := fun wx => by have := key_any (S en.key) wx; rw [hkb] at this; exact this
  have hvI : ¬ (30 : Int) < (en.val.length : Int) := by omega
  have HBY : Hid (∀ wx : World, Calls Tryz.prog 111 #[.agg #[.bool en.put, .string (S en.key), .string (S en.val)]] wx fun e w' => e = .returned (.string (S (entB en))) ∧ Below wx.heap.size wx w') := fun wx => by
    have := bytes_any en.put (S en.key) (S en.val) wx (by omega) (by omega)
    rw [entB_L] at this
    exact this
  have hlen := hok.most
  have hsizes := ent_sizes hok.ents
  have heb : (entB en).length ≤ 53 := by rw [entB_length]; omega
  have hes : (S (entB en)).size = (entB en).length := S_size _
  have c1 : W.cell? ⟨b, 1, none⟩ = some (.bool d.down) := (hR.below hBW).box.cell (j := 1) rfl
  have c13 : W.cell? ⟨b, 13, none⟩ = some (.bool d.opn.isSome) := (hR.below hBW).box.cell (j := 13) rfl
  rw [hd] at c1
  rw [ho] at c13
  have c13' : W.cell? ⟨b, 13, none⟩ = some (.bool true) := c13
  have x0 : W.cell? ⟨w.heap.size, 0, none⟩ = some (.bool en.put) := hxW.cell (j := 0) rfl
  have x1 : W.cell? ⟨w.heap.size, 1, none⟩ = some (.string (S en.key)) := hxW.cell (j := 1) rfl
  have x2 : W.cell? ⟨w.heap.size, 2, none⟩ = some (.string (S en.val)) := hxW.cell (j := 2) rfl
  have HOK : Hid (DkOk d) := hok
  clear hR hBW hxW c13 hok hkb
  go_enter Tryz.func119, Tryz.ntmps119
  go_wp2_with fail
  have hW' : w.alloc (.cells #[.bool en.put, .string (S en.key), .string (S en.val)] 114) = W := hW.symm
  rw [hW']
  clear hW hW'
  go_wp2_with (first | (go_at_call 161; refine (HK.out _).mono ?_; rintro e W ⟨rfl, rfl⟩) | (go_at_call 111; refine (HBY.out _).mono ?_; rintro e w1 ⟨rfl, hb1⟩; have HB1 : Hid (Below W.heap.size W w1) := hb1; clear hb1))
  have hw53 : ∀ k, (entsB (d.waits.take k)).length ≤ 13515 := fun k => by
    have h1 := ent_sizes (ws := d.waits.take k) (fun e he => HOK.out.ents e (List.mem_of_mem_take he))
    have h2 : (d.waits.take k).length ≤ 255 := by simp; omega
    omega
  have HW53 : Hid (∀ k, (entsB (d.waits.take k)).length ≤ 13515) := hw53
  clear hw53 hsizes c1 c13' x0 x1 x2
  go_loopw [6, 7] (fun sz i wr => ∃ k : Nat, k ≤ d.waits.length ∧ i = .int .i64 k ∧ sz = .int .i64 (((entB en).length : Int) + ((entsB (d.waits.take k)).length : Int)) ∧ Below W.heap.size W wr) (fun _ i _ => d.waits.length - (intOf i).toNat)
  case atStart => exact ⟨0, by omega, rfl, by simp [entsB, hes], HB1.out⟩
  case round =>
    obtain ⟨k, hk, rfl, rfl, hb⟩ := hrel
    have hRr := HRB.out wr hb
    have hle := HW53.out k
    by_cases hlt : k < d.waits.length
    · obtain ⟨g, cap, hv, _, hgl, hgc⟩ := own_cellsN hRr.row (by omega)
      have c17 : wr.cell? ⟨b, 17, none⟩ = some q.v := hRr.box.cell (j := 17) rfl
      rw [hv] at c17
      obtain ⟨a0, a1, a2⟩ := cellsE_get hlt
      have g0 := (hgc (k * 3) (by omega)).trans a0
      have g1 := (hgc (k * 3 + 1) (by omega)).trans a1
      have g2 := (hgc (k * 3 + 2) (by omega)).trans a2
      have hek := HOK.out.ents d.waits[k] (List.getElem_mem hlt)
      have HN : Hid ((entsB (d.waits.take (k + 1))).length = (entsB (d.waits.take k)).length + (entB d.waits[k]).length) := entsB_take hlt
      have HB : Hid (Below W.heap.size W wr) := hb
      have hes2 : (S (entB d.waits[k])).size = (entB d.waits[k]).length := S_size _
      obtain ⟨e1, e2, e3, _⟩ := hek
      have hel : (entB d.waits[k]).length ≤ 53 := by rw [entB_length]; omega
      have HBYk : Hid (∀ wx : World, Calls Tryz.prog 111 #[.agg #[.bool d.waits[k].put, .string (S d.waits[k].key), .string (S d.waits[k].val)]] wx fun e w' => e = .returned (.string (S (entB d.waits[k]))) ∧ Below wx.heap.size wx w') := fun wx => by
        have := bytes_any d.waits[k].put (S d.waits[k].key) (S d.waits[k].val) wx (by rw [S_size]; omega) (by rw [S_size]; omega)
        rw [entB_L] at this
        exact this
      clear a0 a1 a2 hgc hRr hb hv e1 e2 e3
      generalize d.waits[k] = ek at *
      go_wp2_with (first | (go_at_call 111; refine (HBYk.out _).mono ?_; rintro e w2 ⟨rfl, hb2⟩; have HB2 : Hid (Below wr.heap.size wr w2) := hb2; clear hb2))
      go_roundw
      case rel => exact ⟨k + 1, by omega, by go_num, by rw [HN.out]; congr 1; omega, HB.out.trans (HB2.out.mono HB.out.size)⟩
      case measure => simp [intOf]; omega
    · have hkn : k = d.waits.length := by omega
      subst hkn
      rw [List.take_length] at hle
      rw [List.take_length]
      have HB : Hid (Below W.heap.size W wr) := hb
      have c14 : wr.cell? ⟨b, 14, none⟩ = some (.int .i64 q.c0) := hRr.box.cell (j := 14) rfl
      rw [hRr.blk blk ho] at c14
      obtain ⟨a, cp, hv⟩ := own_len hRr.row
      have c17 : wr.cell? ⟨b, 17, none⟩ = some q.v := hRr.box.cell (j := 17) rfl
      have hxr := HXB.out wr hb
      have x0 : wr.cell? ⟨w.heap.size, 0, none⟩ = some (.bool en.put) := hxr.cell (j := 0) rfl
      have x1 : wr.cell? ⟨w.heap.size, 1, none⟩ = some (.string (S en.key)) := hxr.cell (j := 1) rfl
      have x2 : wr.cell? ⟨w.heap.size, 2, none⟩ = some (.string (S en.val)) := hxr.cell (j := 2) rfl
      by_cases hA : (entB en).length + (entsB d.waits).length ≤ blk ∧ d.waits.length < 255
      · rw [hv] at c17
        have g1 : ¬ ((blk : Int) < ((entB en).length : Int) + ((entsB d.waits).length : Int)) := by omega
        have g2 : ¬ ((d.waits.length : Int) = 255) := by omega
        have hE0 : d.add en = (0, { d with waits := d.waits ++ [en] }) := radd_fits hgood hd ho (by unfold Dk.fits; simp; omega)
        have HE : Hid (d.add en = (0, { d with waits := d.waits ++ [en] })) := hE0
        obtain ⟨g, gc, X, hrun, k17, kf17, HEND⟩ := add_end (q := q) en (RDone.of_below (HRB.out W (Below.refl _ _)) hb) ((hRr).mono (fun k hk => .inl hk)) hlen
        rw [hv] at hrun k17
        have HRUN : Hid _ := hrun
        have HB0 : Hid (Below w.heap.size w W) := HBB.out W (Below.refl _ _)
        have lt1 := hRr.box.lt
        have lt2 := hxr.lt
        have ne1 : b ≠ wr.heap.size := by omega
        have ne2 : wr.heap.size ≠ b := by omega
        have ne3 : w.heap.size ≠ wr.heap.size := by omega
        have ne4 : wr.heap.size ≠ w.heap.size := by omega
        clear hrun hE0 hRr hb hgood hd ho hv hxr hle hA
        go_wp2_with fail
        go_region_law (refine step_append_run rfl (.tmp 76) (.tmp 78) 115 rfl (by simp [Act.eval, Act.put]) (by simp [Act.eval, Act.put]) HRUN.out ?_)
        all_goals
          go_wp2
          go_ret
          exact ⟨by rw [HE.out]; rfl, by rw [HE.out]; exact RDone.later HB0.out HEND.out⟩
      · have lt1 := hRr.box.lt
        have lt2 := hxr.lt
        have hf0 := (HOK.out.opn blk ho).1
        by_cases hw0 : d.waits = []
        · have HE : Hid (d.add en = (0, { d with waits := d.waits ++ [en] })) := radd_fits hgood hd ho (by unfold Dk.fits; rw [hw0]; rfl)
          have g1 : ((blk : Int) < ((entB en).length : Int) + ((entsB d.waits).length : Int)) := by
            have : d.waits.length = 0 := by rw [hw0]; rfl
            omega
          have HWR := rwrites_none b d q wr G hRr hw0
          obtain ⟨g, gc, X, hrun, k17, kf17, HEND⟩ := add_end (q := q) en (RDone.of_below (HRB.out W (Below.refl _ _)) hb) ((hRr).mono (fun k hk => .inl hk)) hlen
          rw [hv] at hrun k17 c17
          have HRUN : Hid _ := hrun
          have HB0 : Hid (Below w.heap.size w W) := HBB.out W (Below.refl _ _)
          have ne1 : b ≠ wr.heap.size := by omega
          have ne2 : wr.heap.size ≠ b := by omega
          have ne3 : w.heap.size ≠ wr.heap.size := by omega
          have ne4 : wr.heap.size ≠ w.heap.size := by omega
          clear hrun hRr hb hgood hd ho hv hxr hle hA hw0 hf0
          go_wp2_with (first | (go_at_call 174; refine HWR.mono ?_; rintro e wr ⟨rfl, rfl⟩))
          go_region_law (refine step_append_run rfl (.tmp 76) (.tmp 78) 115 rfl (by simp [Act.eval, Act.put]) (by simp [Act.eval, Act.put]) HRUN.out ?_)
          all_goals
            go_wp2
            go_ret
            exact ⟨by rw [HE.out]; rfl, by rw [HE.out]; exact RDone.later HB0.out HEND.out⟩
        · have hfit : d.fits blk en = false := by
            unfold Dk.fits
            simp [hw0]
            omega
          have HAW := radd_writes hgood hd ho hfit
          have HWR := rwrites_some G b d q wr hRr HOK.out hw0 hf0
          have hfine := write_fine HOK.out hd
          have HBwr : Hid (Below w.heap.size w wr) := HBB.out wr hb
          generalize d.write = r at *
          obtain ⟨re, rd⟩ := r
          simp only at HAW HWR hfine
          have hsplit : ((blk : Int) < ((entB en).length : Int) + ((entsB d.waits).length : Int)) ∨ (¬ ((blk : Int) < ((entB en).length : Int) + ((entsB d.waits).length : Int)) ∧ (d.waits.length : Int) = 255) := by omega
          by_cases h0 : re = 0
          · subst h0
            rw [if_pos rfl] at HAW
            have HE : Hid (d.add en = (0, { rd with waits := rd.waits ++ [en] })) := HAW
            obtain ⟨f1, f2, f3, f4⟩ := hfine rfl
            have HAFT : Hid (∀ w2 : World, RDone G b wr rd w2 → ∃ a2 cp2 g gc X, w2.cell? ⟨b, 17, none⟩ = some (.slice a2 0 cp2) ∧ w2.cell? ⟨w.heap.size, 0, none⟩ = some (.bool en.put) ∧ w2.cell? ⟨w.heap.size, 1, none⟩ = some (.string (S en.key)) ∧ w2.cell? ⟨w.heap.size, 2, none⟩ = some (.string (S en.val)) ∧ wr.heap.size ≤ w2.heap.size ∧
                (Builtin.append_ #[115, 115] 115 #[.slice a2 0 cp2, .slice (some ⟨w2.heap.size, 0, none⟩) 1 1]).run Tryz.prog (w2.alloc (.cells #[.bool en.put, .string (S en.key), .string (S en.val)] 114)).drew = .ok (.slice (some ⟨g, 0, none⟩) 1 gc) X ∧
                X.cell? ⟨b, 17, none⟩ = some (.slice a2 0 cp2) ∧ X.frozen? ⟨b, 17, none⟩ = false ∧ Hid (RDone G b wr { rd with waits := rd.waits ++ [en] } (X.setCell ⟨b, 17, none⟩ (.slice (some ⟨g, 0, none⟩) 1 gc)))) := fun w2 h => by
              have h' := h
              obtain ⟨⟨q2, h1⟩, h2⟩ := h'
              obtain ⟨g, gc, X, e1, e2, e3, e4⟩ := add_end en h h1 (by rw [f4]; simp)
              obtain ⟨a2, cp2, hv2⟩ := own_len h1.row
              have c2 : w2.cell? ⟨b, 17, none⟩ = some q2.v := h1.box.cell (j := 17) rfl
              have hl0 : rd.waits.length = 0 := by rw [f4]; rfl
              rw [hl0] at hv2 e1 e4
              rw [hv2] at e1 e2 c2
              have hx2 := hxr.chg h2 (fun hg => by have := hGz _ hg; omega)
              exact ⟨a2, cp2, g, gc, X, c2, hx2.cell (j := 0) rfl, hx2.cell (j := 1) rfl, hx2.cell (j := 2) rfl, h2.size, e1, e2, e3, e4⟩
            rw [hv] at c17
            clear hRr hb hgood hd ho hv hxr hle hA hw0 hf0 HAW hfine f1 f2 f3 f4 hfit
            rcases hsplit with g1 | ⟨g1, g2⟩
            all_goals
              go_wp2_with (first | (go_at_call 174; refine HWR.mono ?_; rintro e w2 ⟨rfl, hd2⟩; obtain ⟨a2, cp2, g, gc, X, d17, y0, y1, y2, hz2, hrun, k17, kf17, HEND⟩ := HAFT.out w2 hd2; have HRUN : Hid _ := hrun; have lt3 : b < w2.heap.size := (by omega); have lt4 : w.heap.size < w2.heap.size := (by omega); have ne1 : b ≠ w2.heap.size := (by omega); have ne2 : w2.heap.size ≠ b := (by omega); have ne3 : w.heap.size ≠ w2.heap.size := (by omega); have ne4 : w2.heap.size ≠ w.heap.size := (by omega); clear hd2 hrun))
              go_region_law (refine step_append_run rfl (.tmp 76) (.tmp 78) 115 rfl (by simp [Act.eval, Act.put]) (by simp [Act.eval, Act.put]) HRUN.out ?_)
              all_goals
                go_wp2
                go_ret
                exact ⟨by rw [HE.out]; rfl, by rw [HE.out]; exact RDone.later HBwr.out HEND.out⟩
          · rw [if_neg h0] at HAW
            have HE : Hid (d.add en = (re, rd)) := HAW
            rw [hv] at c17
            clear hRr hb hgood hd ho hv hxr hle hA hw0 hf0 HAW hfine hfit
            rcases hsplit with g1 | ⟨g1, g2⟩
            all_goals
              go_wp2_with (first | (go_at_call 174; refine HWR.mono ?_; rintro e w2 ⟨rfl, hd2⟩; have HD2 : Hid (RDone G b wr rd w2) := hd2; clear hd2))
              go_ret
              exact ⟨by rw [HE.out]; rfl, by rw [HE.out]; exact RDone.later HBwr.out HD2.out⟩
theorem radd_any (G : Nat → Prop) (b : Nat) (d : Dk) (q : RfP) (en : Ent) (w : World) (hR : RefAt w G b d q) (hok : DkOk d) (hGz : ∀ k, G k → k < w.heap.size) :
    Calls Tryz.prog 119 #[.pointer (some ⟨b, 0, none⟩), .agg #[.bool en.put, .string (S en.key), .string (S en.val)]] w fun e w' => e = .returned (.int .i64 (d.add en).1) ∧ RDone G b w (d.add en).2 w' := by
  by_cases h1 : en.key.length < 1 ∨ 20 < en.key.length ∨ 30 < en.val.length
  · exact radd_not G b d q en w hR (.inl h1)
  · cases hd : d.down with
    | true => exact radd_not G b d q en w hR (.inr (.inl hd))
    | false =>
      cases ho : d.opn with
      | none => exact radd_not G b d q en w hR (.inr (.inr ho))
      | some blk => exact radd_some G b d q en blk w hR hok hGz h1 hd ho
end Go.Proofs.YtdhgebdbiehchaaGreatDoor
namespace Go.Proofs.YtdhgebdbiehchaaGreatDoor
open Go.RowKit Go.Maps
set_option linter.unusedSimpArgs false
set_option linter.unusedVariables false

set_option maxRecDepth 100000 in
set_option maxHeartbeats 3200000 in
theorem does_create (m : Bool) (o : OpV) (hk : o.kind = 6) : Does m o := by
  intro E n bw nd c Fr w κ ds P ls j d p h1 h2 h3 h4 h5 h6 h7 hcb hd hp
  obtain ⟨kind, at', x, y, s, t, u, c0, c1, c2⟩ := o
  dsimp only at hk
  subst hk
  have hok : DkOk d := (h3 _ (List.mem_of_getElem? hd)).2
  obtain ⟨XD, hS0, hX, hY⟩ := does_two (d' := (d.create c0 c1 c2).2) ⟨6, at', x, y, s, t, u, c0, c1, c2⟩ h1 h2 h3 h4 h5 h6 h7 hd hp (hok.create c0 c1 c2) 36 118
    #[.pointer (some ⟨p.2.1, 0, none⟩), .agg #[.int .i64 c0, .int .i64 c1, .int .i64 c2]] #[.pointer (some ⟨p.2.2, 0, none⟩), .agg #[.int .i64 c0, .int .i64 c1, .int .i64 c2]] (d.create c0 c1 c2).1
    (fun w1 G q e1 e2 e3 => create_any E n G p.2.1 d q c0 c1 c2 w1 e1 e2 e3 hok) (fun w1 G q e1 e2 => rcreate_any G p.2.2 d q c0 c1 c2 w1 e2 hok e1)
  generalize (d.create c0 c1 c2).1 = code at *
  clear h1 h2 h3 h4 h5 h6 h7 hok hd hp
  obtain ⟨pb, px, py⟩ := p
  dsimp only at *
  have HS0 : Hid (dS pb px py w.heap.size x y s t c0 c1 c2 (w.alloc (.cells (opC ⟨6, at', x, y, s, t, u, c0, c1, c2⟩) 68))) := hS0
  have HX : Hid (∀ w1 : World, Below (w.alloc (.cells (opC ⟨6, at', x, y, s, t, u, c0, c1, c2⟩) 68)).heap.size (w.alloc (.cells (opC ⟨6, at', x, y, s, t, u, c0, c1, c2⟩) 68)) w1 → _) := hX
  have HY : Hid (∀ w2 : World, XD w2 → _) := hY
  clear hS0 hX hY
  unfold OpV.val
  dsimp only
  go_enter Tryz.func65, Tryz.ntmps65
  go_wp2_with fail
  go_region_held3 (fun w' => (w'.cell? ⟨pb, 0, none⟩ = some (.pointer (some ⟨px, 0, none⟩)) ∧ w'.cell? ⟨pb, 1, none⟩ = some (.pointer (some ⟨py, 0, none⟩))) ∧ (w'.cell? ⟨w.heap.size, 2, none⟩ = some (.int .i64 x) ∧ w'.cell? ⟨w.heap.size, 3, none⟩ = some (.int .i64 y)) ∧ (w'.cell? ⟨w.heap.size, 4, none⟩ = some (.string s) ∧ w'.cell? ⟨w.heap.size, 5, none⟩ = some (.string t)) ∧ (w'.cell? ⟨w.heap.size, 7, none⟩ = some (.int .i64 c0) ∧ w'.cell? ⟨w.heap.size, 8, none⟩ = some (.int .i64 c1) ∧ w'.cell? ⟨w.heap.size, 9, none⟩ = some (.int .i64 c2))) (first | (exact HS0.out) | (assumption)) (first | (go_at_call 36; refine (HX.out _ ?_).mono ?_; exact (Below.refl _ _).drew; rintro e w2 ⟨rfl, hx⟩; obtain ⟨hS2, hy2⟩ := HY.out w2 hx; have HS2 : Hid (dS pb px py w.heap.size x y s t c0 c1 c2 w2) := hS2; have HY2 : Hid (∀ w3 : World, Below w2.heap.size w2 w3 → _) := hy2; clear hx hy2))
  all_goals
    clear hS2
    go_wp2_with fail
    go_region_held3 (fun w' => (w'.cell? ⟨pb, 0, none⟩ = some (.pointer (some ⟨px, 0, none⟩)) ∧ w'.cell? ⟨pb, 1, none⟩ = some (.pointer (some ⟨py, 0, none⟩))) ∧ (w'.cell? ⟨w.heap.size, 2, none⟩ = some (.int .i64 x) ∧ w'.cell? ⟨w.heap.size, 3, none⟩ = some (.int .i64 y)) ∧ (w'.cell? ⟨w.heap.size, 4, none⟩ = some (.string s) ∧ w'.cell? ⟨w.heap.size, 5, none⟩ = some (.string t)) ∧ (w'.cell? ⟨w.heap.size, 7, none⟩ = some (.int .i64 c0) ∧ w'.cell? ⟨w.heap.size, 8, none⟩ = some (.int .i64 c1) ∧ w'.cell? ⟨w.heap.size, 9, none⟩ = some (.int .i64 c2))) (first | (exact HS2.out) | (assumption)) (first | (go_at_call 118; refine (HY2.out _ ?_).mono ?_; exact (Below.refl _ _).drew; rintro e w3 ⟨rfl, hS3, hl⟩; have HL : Hid (Left E n bw m nd c Fr (6 = (10 : Int)) P.pv w w3) := hl; clear hl))
    all_goals
      clear hS3
      go_wp2_with (first | (go_at_call 114; refine (num_any _ _).mono ?_; rintro e w3 ⟨rfl, rfl⟩))
      go_ret
      exact ⟨by simp, HL.out⟩
set_option maxRecDepth 100000 in
set_option maxHeartbeats 3200000 in
theorem does_put (m : Bool) (o : OpV) (hk : o.kind = 7) : Does m o := by
  intro E n bw nd c Fr w κ ds P ls j d p h1 h2 h3 h4 h5 h6 h7 hcb hd hp
  obtain ⟨kind, at', x, y, s, t, u, c0, c1, c2⟩ := o
  dsimp only at hk
  subst hk
  obtain ⟨key, rfl⟩ : ∃ l, s = S l := ⟨s.data.toList, rfl⟩
  obtain ⟨val, rfl⟩ : ∃ l, t = S l := ⟨t.data.toList, rfl⟩
  have hok : DkOk d := (h3 _ (List.mem_of_getElem? hd)).2
  obtain ⟨XD, hS0, hX, hY⟩ := does_two (d' := (d.add ⟨true, key, val⟩).2) ⟨7, at', x, y, (S key), (S val), u, c0, c1, c2⟩ h1 h2 h3 h4 h5 h6 h7 hd hp (hok.add (fun e => by cases e)) 26 119
    #[.pointer (some ⟨p.2.1, 0, none⟩), .string (S key), .string (S val)] #[.pointer (some ⟨p.2.2, 0, none⟩), .agg #[.bool true, .string (S key), .string (S val)]] (d.add ⟨true, key, val⟩).1
    (fun w1 G q e1 e2 e3 => putS_any E n G p.2.1 d q key val w1 e1 e2 e3 hok) (fun w1 G q e1 e2 => radd_any G p.2.2 d q ⟨true, key, val⟩ w1 e2 hok e1)
  generalize (d.add ⟨true, key, val⟩).1 = code at *
  clear h1 h2 h3 h4 h5 h6 h7 hok hd hp
  obtain ⟨pb, px, py⟩ := p
  dsimp only at *
  have HS0 : Hid (dS pb px py w.heap.size x y (S key) (S val) c0 c1 c2 (w.alloc (.cells (opC ⟨7, at', x, y, (S key), (S val), u, c0, c1, c2⟩) 68))) := hS0
  have HX : Hid (∀ w1 : World, Below (w.alloc (.cells (opC ⟨7, at', x, y, (S key), (S val), u, c0, c1, c2⟩) 68)).heap.size (w.alloc (.cells (opC ⟨7, at', x, y, (S key), (S val), u, c0, c1, c2⟩) 68)) w1 → _) := hX
  have HY : Hid (∀ w2 : World, XD w2 → _) := hY
  clear hS0 hX hY
  unfold OpV.val
  dsimp only
  go_enter Tryz.func65, Tryz.ntmps65
  go_wp2_with fail
  go_region_held3 (fun w' => (w'.cell? ⟨pb, 0, none⟩ = some (.pointer (some ⟨px, 0, none⟩)) ∧ w'.cell? ⟨pb, 1, none⟩ = some (.pointer (some ⟨py, 0, none⟩))) ∧ (w'.cell? ⟨w.heap.size, 2, none⟩ = some (.int .i64 x) ∧ w'.cell? ⟨w.heap.size, 3, none⟩ = some (.int .i64 y)) ∧ (w'.cell? ⟨w.heap.size, 4, none⟩ = some (.string (S key)) ∧ w'.cell? ⟨w.heap.size, 5, none⟩ = some (.string (S val))) ∧ (w'.cell? ⟨w.heap.size, 7, none⟩ = some (.int .i64 c0) ∧ w'.cell? ⟨w.heap.size, 8, none⟩ = some (.int .i64 c1) ∧ w'.cell? ⟨w.heap.size, 9, none⟩ = some (.int .i64 c2))) (first | (exact HS0.out) | (assumption)) (first | (go_at_call 26; refine (HX.out _ ?_).mono ?_; exact (Below.refl _ _).drew; rintro e w2 ⟨rfl, hx⟩; obtain ⟨hS2, hy2⟩ := HY.out w2 hx; have HS2 : Hid (dS pb px py w.heap.size x y (S key) (S val) c0 c1 c2 w2) := hS2; have HY2 : Hid (∀ w3 : World, Below w2.heap.size w2 w3 → _) := hy2; clear hx hy2))
  all_goals
    clear hS2
    go_wp2_with fail
    go_region_held3 (fun w' => (w'.cell? ⟨pb, 0, none⟩ = some (.pointer (some ⟨px, 0, none⟩)) ∧ w'.cell? ⟨pb, 1, none⟩ = some (.pointer (some ⟨py, 0, none⟩))) ∧ (w'.cell? ⟨w.heap.size, 2, none⟩ = some (.int .i64 x) ∧ w'.cell? ⟨w.heap.size, 3, none⟩ = some (.int .i64 y)) ∧ (w'.cell? ⟨w.heap.size, 4, none⟩ = some (.string (S key)) ∧ w'.cell? ⟨w.heap.size, 5, none⟩ = some (.string (S val))) ∧ (w'.cell? ⟨w.heap.size, 7, none⟩ = some (.int .i64 c0) ∧ w'.cell? ⟨w.heap.size, 8, none⟩ = some (.int .i64 c1) ∧ w'.cell? ⟨w.heap.size, 9, none⟩ = some (.int .i64 c2))) (first | (exact HS2.out) | (assumption)) (first | (go_at_call 119; refine (HY2.out _ ?_).mono ?_; exact (Below.refl _ _).drew; rintro e w3 ⟨rfl, hS3, hl⟩; have HL : Hid (Left E n bw m nd c Fr (7 = (10 : Int)) P.pv w w3) := hl; clear hl))
    all_goals
      clear hS3
      go_wp2_with (first | (go_at_call 114; refine (num_any _ _).mono ?_; rintro e w3 ⟨rfl, rfl⟩))
      go_ret
      exact ⟨by simp, HL.out⟩
set_option maxRecDepth 100000 in
set_option maxHeartbeats 3200000 in
theorem does_delete (m : Bool) (o : OpV) (hk : o.kind = 8) : Does m o := by
  intro E n bw nd c Fr w κ ds P ls j d p h1 h2 h3 h4 h5 h6 h7 hcb hd hp
  obtain ⟨kind, at', x, y, s, t, u, c0, c1, c2⟩ := o
  dsimp only at hk
  subst hk
  obtain ⟨key, rfl⟩ : ∃ l, s = S l := ⟨s.data.toList, rfl⟩
  have hok : DkOk d := (h3 _ (List.mem_of_getElem? hd)).2
  obtain ⟨XD, hS0, hX, hY⟩ := does_two (d' := (d.add ⟨false, key, []⟩).2) ⟨8, at', x, y, (S key), t, u, c0, c1, c2⟩ h1 h2 h3 h4 h5 h6 h7 hd hp (hok.add (fun _ => rfl)) 24 119
    #[.pointer (some ⟨p.2.1, 0, none⟩), .string (S key)] #[.pointer (some ⟨p.2.2, 0, none⟩), .agg #[.bool false, .string (S key), .string ⟨#[]⟩]] (d.add ⟨false, key, []⟩).1
    (fun w1 G q e1 e2 e3 => delS_any E n G p.2.1 d q key w1 e1 e2 e3 hok) (fun w1 G q e1 e2 => radd_any G p.2.2 d q ⟨false, key, []⟩ w1 e2 hok e1)
  generalize (d.add ⟨false, key, []⟩).1 = code at *
  clear h1 h2 h3 h4 h5 h6 h7 hok hd hp
  obtain ⟨pb, px, py⟩ := p
  dsimp only at *
  have HS0 : Hid (dS pb px py w.heap.size x y (S key) t c0 c1 c2 (w.alloc (.cells (opC ⟨8, at', x, y, (S key), t, u, c0, c1, c2⟩) 68))) := hS0
  have HX : Hid (∀ w1 : World, Below (w.alloc (.cells (opC ⟨8, at', x, y, (S key), t, u, c0, c1, c2⟩) 68)).heap.size (w.alloc (.cells (opC ⟨8, at', x, y, (S key), t, u, c0, c1, c2⟩) 68)) w1 → _) := hX
  have HY : Hid (∀ w2 : World, XD w2 → _) := hY
  clear hS0 hX hY
  unfold OpV.val
  dsimp only
  go_enter Tryz.func65, Tryz.ntmps65
  go_wp2_with fail
  go_region_held3 (fun w' => (w'.cell? ⟨pb, 0, none⟩ = some (.pointer (some ⟨px, 0, none⟩)) ∧ w'.cell? ⟨pb, 1, none⟩ = some (.pointer (some ⟨py, 0, none⟩))) ∧ (w'.cell? ⟨w.heap.size, 2, none⟩ = some (.int .i64 x) ∧ w'.cell? ⟨w.heap.size, 3, none⟩ = some (.int .i64 y)) ∧ (w'.cell? ⟨w.heap.size, 4, none⟩ = some (.string (S key)) ∧ w'.cell? ⟨w.heap.size, 5, none⟩ = some (.string t)) ∧ (w'.cell? ⟨w.heap.size, 7, none⟩ = some (.int .i64 c0) ∧ w'.cell? ⟨w.heap.size, 8, none⟩ = some (.int .i64 c1) ∧ w'.cell? ⟨w.heap.size, 9, none⟩ = some (.int .i64 c2))) (first | (exact HS0.out) | (assumption)) (first | (go_at_call 24; refine (HX.out _ ?_).mono ?_; exact (Below.refl _ _).drew; rintro e w2 ⟨rfl, hx⟩; obtain ⟨hS2, hy2⟩ := HY.out w2 hx; have HS2 : Hid (dS pb px py w.heap.size x y (S key) t c0 c1 c2 w2) := hS2; have HY2 : Hid (∀ w3 : World, Below w2.heap.size w2 w3 → _) := hy2; clear hx hy2))
  all_goals
    clear hS2
    go_wp2_with fail
    go_region_held3 (fun w' => (w'.cell? ⟨pb, 0, none⟩ = some (.pointer (some ⟨px, 0, none⟩)) ∧ w'.cell? ⟨pb, 1, none⟩ = some (.pointer (some ⟨py, 0, none⟩))) ∧ (w'.cell? ⟨w.heap.size, 2, none⟩ = some (.int .i64 x) ∧ w'.cell? ⟨w.heap.size, 3, none⟩ = some (.int .i64 y)) ∧ (w'.cell? ⟨w.heap.size, 4, none⟩ = some (.string (S key)) ∧ w'.cell? ⟨w.heap.size, 5, none⟩ = some (.string t)) ∧ (w'.cell? ⟨w.heap.size, 7, none⟩ = some (.int .i64 c0) ∧ w'.cell? ⟨w.heap.size, 8, none⟩ = some (.int .i64 c1) ∧ w'.cell? ⟨w.heap.size, 9, none⟩ = some (.int .i64 c2))) (first | (exact HS2.out) | (assumption)) (first | (go_at_call 119; refine (HY2.out _ ?_).mono ?_; exact (Below.refl _ _).drew; rintro e w3 ⟨rfl, hS3, hl⟩; have HL : Hid (Left E n bw m nd c Fr (8 = (10 : Int)) P.pv w w3) := hl; clear hl))
    all_goals
      clear hS3
      go_wp2_with (first | (go_at_call 114; refine (num_any _ _).mono ?_; rintro e w3 ⟨rfl, rfl⟩))
      go_ret
      exact ⟨by simp, HL.out⟩
set_option maxRecDepth 100000 in
set_option maxHeartbeats 3200000 in
theorem does_flush (m : Bool) (o : OpV) (hk : o.kind = 9) : Does m o := by
  intro E n bw nd c Fr w κ ds P ls j d p h1 h2 h3 h4 h5 h6 h7 hcb hd hp
  obtain ⟨kind, at', x, y, s, t, u, c0, c1, c2⟩ := o
  dsimp only at hk
  subst hk
  have hok : DkOk d := (h3 _ (List.mem_of_getElem? hd)).2
  have hpr := h1.pairs j _ p hd hp
  obtain ⟨XD, hS0, hX, hY⟩ := does_two (d' := d.flush.2) ⟨9, at', x, y, s, t, u, c0, c1, c2⟩ h1 h2 h3 h4 h5 h6 h7 hd hp (hok.flush) 17 120
    #[.pointer (some ⟨p.2.1, 0, none⟩)] #[.pointer (some ⟨p.2.2, 0, none⟩)] d.flush.1
    (fun w1 G q e1 e2 e3 => flush_any E n G p.2.1 d q w1 e1 e2 e3 hok) (fun w1 G q e1 e2 => rflush_any G p.2.2 d q w1 e2 hok)
  generalize d.flush.1 = code at *
  clear h1 h2 h3 h4 h5 h6 h7 hok hd hp
  obtain ⟨pb, px, py⟩ := p
  dsimp only at *
  have HS0 : Hid (dS pb px py w.heap.size x y s t c0 c1 c2 (w.alloc (.cells (opC ⟨9, at', x, y, s, t, u, c0, c1, c2⟩) 68))) := hS0
  have HX : Hid (∀ w1 : World, Below (w.alloc (.cells (opC ⟨9, at', x, y, s, t, u, c0, c1, c2⟩) 68)).heap.size (w.alloc (.cells (opC ⟨9, at', x, y, s, t, u, c0, c1, c2⟩) 68)) w1 → _) := hX
  have HY : Hid (∀ w2 : World, XD w2 → _) := hY
  have pc0 : w.cell? ⟨pb, 0, none⟩ = some (.pointer (some ⟨px, 0, none⟩)) := hpr.box.cell (j := 0) rfl
  have plt : pb < w.heap.size := hpr.box.lt
  clear hS0 hX hY hpr
  unfold OpV.val
  dsimp only
  go_enter Tryz.func65, Tryz.ntmps65
  go_wp2_with (first | (go_at_call 17; refine (HX.out _ ?_).mono ?_; exact (Below.refl _ _); rintro e w2 ⟨rfl, hx⟩; obtain ⟨hS2, hy2⟩ := HY.out w2 hx; have HS2 : Hid (dS pb px py w.heap.size x y s t c0 c1 c2 w2) := hS2; have HY2 : Hid (∀ w3 : World, Below w2.heap.size w2 w3 → _) := hy2; clear hx hy2; obtain ⟨⟨k0, k1⟩, _⟩ := hS2) | (go_at_call 120; refine (HY2.out _ ?_).mono ?_; exact (Below.refl _ _); rintro e w3 ⟨rfl, hS3, hl⟩; have HL : Hid (Left E n bw m nd c Fr (9 = (10 : Int)) P.pv w w3) := hl; clear hl; clear hS3) | (go_at_call 114; refine (num_any _ _).mono ?_; rintro e w3 ⟨rfl, rfl⟩))
  go_ret
  exact ⟨by simp, HL.out⟩
end Go.Proofs.YtdhgebdbiehchaaGreatDoor
namespace Go.Proofs.YtdhgebdbiehchaaGreatDoor
open Go.RowKit Go.Maps
set_option linter.unusedSimpArgs false
set_option linter.unusedVariables false

theorem fileR_down {d : Dk} {l : List UInt8} (h : d.down = true) : d.fileR l = ([], 7) := by unfold Dk.fileR; rw [if_pos h]
theorem fileR_none {d : Dk} {s : ByteArray} (hd : d.down = false) (h : ∀ i, i < 3 → ¬ (S (nm i) = s ∧ (d.file i).isSome = true)) : d.fileR s.data.toList = ([], 2) := by
  unfold Dk.fileR
  rw [if_neg (by simp [hd])]
  cases hf : d.file (nameN s.data.toList) with
  | none => rfl
  | some f =>
    exfalso
    have h2 := file_le hf
    refine h (nameN s.data.toList) (by omega) ⟨?_, by rw [hf]; rfl⟩
    rw [nm_nameN h2]
    rfl
theorem fileR_some {d : Dk} {s : ByteArray} {i : Nat} {f : Fl} (hd : d.down = false) (hi : i < 3) (hs : S (nm i) = s) (hf : d.file i = some f) : d.fileR s.data.toList = (f.text, 0) := by
  subst hs
  unfold Dk.fileR
  rw [if_neg (by simp [hd]), show (S (nm i)).data.toList = nm i from rfl, nameN_nm (by omega), hf]
set_option maxRecDepth 100000 in
set_option maxHeartbeats 1600000 in
theorem rfile_any (G : Nat → Prop) (b : Nat) (d : Dk) (q : RfP) (s : ByteArray) (w : World) (hR : RefAt w G b d q) :
    Calls Tryz.prog 178 #[.pointer (some ⟨b, 0, none⟩), .string s] w fun e w' => e = .returned (.tuple #[.string (S (d.fileR s.data.toList).1), .int .i64 (d.fileR s.data.toList).2]) ∧ Below w.heap.size w w' := by
  have c1 : w.cell? ⟨b, 1, none⟩ = some (.bool d.down) := hR.box.cell (j := 1) rfl
  cases hd : d.down with
  | true =>
    have HE : Hid (d.fileR s.data.toList = ([], 7)) := fileR_down hd
    rw [hd] at c1
    clear hR
    go_enter Tryz.func178, Tryz.ntmps178
    go_wp2
    go_ret2
    exact ⟨by rw [HE.out]; rfl, Below.refl _ _⟩
  | false =>
    rw [hd] at c1
    have HR : Hid (RefAt w G b d q) := hR
    clear hR
    go_enter Tryz.func178, Tryz.ntmps178
    go_wp2
    go_loopw [7] (fun i wr => ∃ (k : Nat), k ≤ 3 ∧ i = .int .i64 k ∧ Hid (∀ i, i < k → ¬ (S (nm i) = s ∧ (d.file i).isSome = true)) ∧ wr = w.alloc (.cells #[.string ⟨#[108, 111, 103]⟩, .string ⟨#[110, 101, 119]⟩, .string ⟨#[105, 110, 100, 101, 120]⟩] 9)) (fun i _ => 3 - (intOf i).toNat)
    case atStart => exact ⟨0, by omega, rfl, fun i hi => absurd hi (by omega), rfl⟩
    case round =>
      obtain ⟨k, hk, rfl, HN, rfl⟩ := hrel
      have HB : Hid (Below w.heap.size w (w.alloc (.cells #[.string ⟨#[108, 111, 103]⟩, .string ⟨#[110, 101, 119]⟩, .string ⟨#[105, 110, 100, 101, 120]⟩] 9))) := (Below.refl _ _).alloc (Nat.le_refl _) _
      by_cases hlt : k < 3
      · have HRA := HR.out.below HB.out
        obtain ⟨g0, g1, g2⟩ := file_cells HRA.box hlt
        have nmc : (w.alloc (.cells #[.string ⟨#[108, 111, 103]⟩, .string ⟨#[110, 101, 119]⟩, .string ⟨#[105, 110, 100, 101, 120]⟩] 9)).cell? ⟨w.heap.size, k, none⟩ = some (.string (S (nm k))) := by
          have e : (w.alloc (.cells #[.string ⟨#[108, 111, 103]⟩, .string ⟨#[110, 101, 119]⟩, .string ⟨#[105, 110, 100, 101, 120]⟩] 9)).cell? ⟨w.heap.size, k, none⟩ = _ := World.cell?_alloc_new w _ _ k
          rw [e]
          match k, hlt with
          | 0, _ => rfl
          | 1, _ => rfl
          | 2, _ => rfl
        clear g2 HRA
        generalize hW : (w.alloc (.cells #[.string ⟨#[108, 111, 103]⟩, .string ⟨#[110, 101, 119]⟩, .string ⟨#[105, 110, 100, 101, 120]⟩] 9)) = W at *
        by_cases hs : S (nm k) = s
        · have HS : Hid (S (nm k) = s) := hs
          rw [hs] at nmc
          clear hs
          cases hf : d.file k with
          | none =>
            have HF : Hid (d.file k = none) := hf
            rw [hf] at g0 g1
            have g0' : W.cell? ⟨b, 2 + k * 3, none⟩ = some (.bool false) := g0
            clear g0 g1 hf
            go_wp2
            go_roundw
            case rel =>
              refine ⟨k + 1, by omega, by go_num, fun i hi => ?_, trivial⟩
              by_cases e : i = k
              · subst e; rw [HF.out]; simp
              · exact HN.out i (by omega)
            case measure => simp [intOf]; omega
          | some f =>
            have HE : Hid (d.fileR s.data.toList = (f.text, 0)) := fileR_some hd hlt HS.out hf
            rw [hf] at g0 g1
            have g0' : W.cell? ⟨b, 2 + k * 3, none⟩ = some (.bool true) := g0
            have g1' : W.cell? ⟨b, 2 + k * 3 + 1, none⟩ = some (.string (S f.text)) := g1
            clear g0 g1 hf HN
            go_wp2
            go_ret2
            exact ⟨by rw [HE.out]; rfl, HB.out⟩
        · have hs' : ¬ (Value.string (S (nm k)) = Value.string s) := by intro e; injection e with e; exact hs e
          have HSN : Hid (¬ S (nm k) = s) := hs
          clear g0 g1
          have hsl : ((S (nm k)).toList == s.toList) = false := by
            rw [ByteArray.toList_eq, ByteArray.toList_eq, S_data, beq_eq_false_iff_ne]
            intro e
            exact hs (by rw [e]; rfl)
          clear hs' HSN
          generalize hnk : S (nm k) = nk at *
          go_wp2
          go_roundw
          case rel =>
            refine ⟨k + 1, by omega, by go_num, fun i hi => ?_, trivial⟩
            by_cases e : i = k
            · subst e; exact fun h => hs (hnk.symm.trans h.1)
            · exact HN.out i (by omega)
          case measure => simp [intOf]; omega
      · have e : k = 3 := by omega
        subst e
        have HE : Hid (d.fileR s.data.toList = ([], 2)) := fileR_none hd HN.out
        go_wp2
        go_ret2
        exact ⟨by rw [HE.out]; rfl, HB.out⟩
end Go.Proofs.YtdhgebdbiehchaaGreatDoor
namespace Go.Proofs.YtdhgebdbiehchaaGreatDoor
open Go.RowKit Go.Maps
set_option linter.unusedSimpArgs false
set_option linter.unusedVariables false

set_option maxRecDepth 100000 in
set_option maxHeartbeats 3200000 in
theorem asked_file (o : OpV) (hk : o.kind = 10) (bw pb : Nat) (x y : Nat) (r : List UInt8 × Int) (w : World) (c0 : ∀ w1 : World, Below w.heap.size w w1 → w1.cell? ⟨pb, 0, none⟩ = some (.pointer (some ⟨x, 0, none⟩)) ∧ w1.cell? ⟨pb, 1, none⟩ = some (.pointer (some ⟨y, 0, none⟩)))
    (HX : ∀ w1 : World, Below w.heap.size w w1 → Calls Tryz.prog 19 #[.pointer (some ⟨x, 0, none⟩), .string o.s] w1 fun e w' => e = .returned (.tuple #[.string (S r.1), .int .i64 r.2]) ∧ Below w1.heap.size w1 w')
    (HY : ∀ w1 : World, Below w.heap.size w w1 → Calls Tryz.prog 178 #[.pointer (some ⟨y, 0, none⟩), .string o.s] w1 fun e w' => e = .returned (.tuple #[.string (S r.1), .int .i64 r.2]) ∧ Below w1.heap.size w1 w') :
    Calls Tryz.prog 125 #[.pointer (some ⟨bw, 0, none⟩), .pointer (some ⟨pb, 0, none⟩), o.val] w fun e w' => e = .returned (.bool true) ∧ Below w.heap.size w w' := by
  obtain ⟨kind, at', xx, yy, s, t, u, c0', c1, c2⟩ := o
  dsimp only at hk HX HY
  subst hk
  have hB : Below w.heap.size w (w.alloc (.cells (opC ⟨10, at', xx, yy, s, t, u, c0', c1, c2⟩) 68)) := (Below.refl _ _).alloc (Nat.le_refl _) _
  have hzW : w.heap.size < (w.alloc (.cells (opC ⟨10, at', xx, yy, s, t, u, c0', c1, c2⟩) 68)).heap.size := by simp
  have HBB : Hid (∀ w1 : World, Below (w.alloc (.cells (opC ⟨10, at', xx, yy, s, t, u, c0', c1, c2⟩) 68)).heap.size (w.alloc (.cells (opC ⟨10, at', xx, yy, s, t, u, c0', c1, c2⟩) 68)) w1 → Below w.heap.size w w1) := fun w1 hb => hB.trans (hb.mono (by omega))
  have HC : Hid (∀ w1 : World, Below (w.alloc (.cells (opC ⟨10, at', xx, yy, s, t, u, c0', c1, c2⟩) 68)).heap.size (w.alloc (.cells (opC ⟨10, at', xx, yy, s, t, u, c0', c1, c2⟩) 68)) w1 → (w1.cell? ⟨pb, 0, none⟩ = some (.pointer (some ⟨x, 0, none⟩)) ∧ w1.cell? ⟨pb, 1, none⟩ = some (.pointer (some ⟨y, 0, none⟩))) ∧ w1.cell? ⟨w.heap.size, 4, none⟩ = some (.string s)) := fun w1 hb => ⟨c0 w1 (HBB.out w1 hb), ((bx_new w (opC ⟨10, at', xx, yy, s, t, u, c0', c1, c2⟩) 68 rfl).below hb hzW).cell (j := 4) rfl⟩
  have HXh : Hid (∀ w1 : World, Below w.heap.size w w1 → _) := HX
  have HYh : Hid (∀ w1 : World, Below w.heap.size w w1 → _) := HY
  have HS0 := HC.out _ (Below.refl _ _)
  have HS0h : Hid ((_ ∧ _) ∧ _) := HS0
  clear hB c0 HX HY hzW HS0
  obtain ⟨rs, rn⟩ := r
  dsimp only at *
  unfold OpV.val
  dsimp only
  go_enter Tryz.func125, Tryz.ntmps125
  go_wp2_with fail
  go_region_held3 (fun w' => (w'.cell? ⟨pb, 0, none⟩ = some (.pointer (some ⟨x, 0, none⟩)) ∧ w'.cell? ⟨pb, 1, none⟩ = some (.pointer (some ⟨y, 0, none⟩))) ∧ w'.cell? ⟨w.heap.size, 4, none⟩ = some (.string s)) (first | (exact HS0h.out) | (assumption)) (first | (go_at_call 19; refine (HXh.out _ ?_).mono ?_; exact ((Below.refl _ _).alloc (Nat.le_refl _) _).drew; rintro e w1 ⟨rfl, hb1⟩; have hb1' : Below (w.alloc (.cells (opC ⟨10, at', xx, yy, s, t, u, c0', c1, c2⟩) 68)).heap.size (w.alloc (.cells (opC ⟨10, at', xx, yy, s, t, u, c0', c1, c2⟩) 68)) w1 := ⟨hb1.os, hb1.tape, hb1.output, hb1.size, hb1.block⟩; have hS1 := HC.out w1 hb1'; have HB1 : Hid (Below w.heap.size w w1) := HBB.out w1 hb1'; have HBA : Hid (∀ w2 : World, Below w1.heap.size w1 w2 → Below (w.alloc (.cells (opC ⟨10, at', xx, yy, s, t, u, c0', c1, c2⟩) 68)).heap.size (w.alloc (.cells (opC ⟨10, at', xx, yy, s, t, u, c0', c1, c2⟩) 68)) w2) := fun w2 hb2 => hb1'.trans (hb2.mono hb1'.size); have HS1 : Hid ((_ ∧ _) ∧ _) := hS1; clear hb1 hb1'))
  all_goals
    clear hS1
    go_wp2_with fail
    go_region_held3 (fun w' => (w'.cell? ⟨pb, 0, none⟩ = some (.pointer (some ⟨x, 0, none⟩)) ∧ w'.cell? ⟨pb, 1, none⟩ = some (.pointer (some ⟨y, 0, none⟩))) ∧ w'.cell? ⟨w.heap.size, 4, none⟩ = some (.string s)) (first | (exact HS1.out) | (assumption)) (first | (go_at_call 178; refine (HYh.out _ ?_).mono ?_; exact HB1.out.drew; rintro e w2 ⟨rfl, hb2⟩; have hb2' : Below w1.heap.size w1 w2 := ⟨hb2.os, hb2.tape, hb2.output, hb2.size, hb2.block⟩; have hS2 := HC.out w2 (HBA.out w2 hb2'); have HB2 : Hid (Below w.heap.size w w2) := HBB.out w2 (HBA.out w2 hb2'); clear hb2 hb2'))
    all_goals
      clear hS2
      go_wp2_with (first | (go_at_call 114; refine (num_any _ _).mono ?_; rintro e w2 ⟨rfl, rfl⟩))
      go_ret
      exact ⟨by simp, HB2.out⟩
set_option maxRecDepth 100000 in
set_option maxHeartbeats 3200000 in
theorem does_asked (o : OpV) (bw pb : Nat) (w : World) (Q : World → Prop) (hk : o.kind = 10 ∨ o.kind = 12 ∨ o.kind = 13) (HA : ∀ w1 : World, Below w.heap.size w w1 → Calls Tryz.prog 125 #[.pointer (some ⟨bw, 0, none⟩), .pointer (some ⟨pb, 0, none⟩), o.val] w1 fun e w' => e = .returned (.bool true) ∧ Q w') :
    Calls Tryz.prog 65 #[.pointer (some ⟨bw, 0, none⟩), .pointer (some ⟨pb, 0, none⟩), o.val] w fun e w' => e = .returned (.bool true) ∧ Q w' := by
  obtain ⟨kind, at', x, y, s, t, u, c0, c1, c2⟩ := o
  dsimp only at hk
  unfold OpV.val at HA ⊢
  dsimp only at HA ⊢
  have HAh : Hid (∀ w1 : World, Below w.heap.size w w1 → _) := HA
  clear HA
  rcases hk with rfl | rfl | rfl
  all_goals
    go_enter Tryz.func65, Tryz.ntmps65
    go_wp2_with (first | (go_at_call 125; refine (HAh.out _ ?_).mono ?_; exact (Below.refl _ _).alloc (Nat.le_refl _) _; rintro e w1 ⟨rfl, hq⟩; have HQ : Hid (Q w1) := hq; clear hq))
    go_ret
    exact ⟨rfl, HQ.out⟩
theorem does_file (m : Bool) (o : OpV) (hk : o.kind = 10) (hs : o.s.size ≤ 140737488351232) : Does m o := by
  intro E n bw nd c Fr w κ ds P ls j d p h1 h2 h3 h4 h5 h6 h7 hcb hd hp
  have hpr : ∀ w1 : World, Below w.heap.size w w1 → PairAt w1 κ n j (d, d) p := fun w1 hb => (h1.below hb).pairs j _ p hd hp
  refine (does_asked o bw p.1 w (fun w' => Below w.heap.size w w') (.inl hk) fun w1 hb => ?_).mono ?_
  · refine (asked_file o hk bw p.1 p.2.1 p.2.2 (d.fileR o.s.data.toList) w1 (fun w2 hb2 => ?_) (fun w2 hb2 => ?_) (fun w2 hb2 => ?_)).mono fun e w' ⟨a1, a2⟩ => ⟨a1, hb.trans (a2.mono hb.size)⟩
    · have := (hpr w2 (hb.trans (hb2.mono hb.size))).box
      exact ⟨this.cell (j := 0) rfl, this.cell (j := 1) rfl⟩
    · have hb02 := hb.trans (hb2.mono hb.size)
      obtain ⟨q, hq⟩ := (hpr w2 hb02).px
      exact fileS_any E n _ p.2.1 d q o.s w2 (h2.below (hb02.mono h2.le)) hq hs
    · have hb02 := hb.trans (hb2.mono hb.size)
      obtain ⟨q, hq⟩ := (hpr w2 hb02).py
      exact rfile_any _ p.2.2 d q o.s w2 hq
  · rintro e w' ⟨rfl, hb⟩
    exact ⟨rfl, ⟨c, by omega, fun _ => rfl, Inv.below ⟨κ, ds, P, ls, h1, h2, h3, h4, h5, h6, h7⟩ hb⟩, Chg.of_below hb, hb.cell (p := ⟨bw, 0, none⟩) h1.box.lt, fun g hg => hb.block g (h1.crow g hg).2.2⟩
end Go.Proofs.YtdhgebdbiehchaaGreatDoor
