/- The contracts of the document's store: syncs, makes, opens. The contracts of the document's store: Create, writes, Flush. The contracts of the document's store: writes, Flush, File. The contract of the document's store: Add. -/
import Derived.Test.YtdhgebdbiehchaaGreatDoorB19
namespace Go.Proofs.YtdhgebdbiehchaaGreatDoor
open Go.RowKit Go.Maps
set_option linter.unusedSimpArgs false
set_option linter.unusedVariables false

set_option maxRecDepth 100000 in
set_option maxHeartbeats 1600000 in
theorem syncs_any (G : Nat → Prop) (b : Nat) (d : Dk) (q : RfP) (i : Nat) (w : World) (hR : RefAt w G b d q) (hok : DkOk d) (hi : i < 3) (hf : (d.file i).isSome = true) :
    Calls Tryz.prog 175 #[.pointer (some ⟨b, 0, none⟩), .int .i64 (i : Int)] w fun e w' => e = .returned (.int .i64 (d.one (stSync i)).1) ∧ RDone G b w (d.one (stSync i)).2 w' := by
  have HST := rstep_any G b d q w hR hok
  have hgb := hR.gb
  have hok' := hok.count
  obtain ⟨bb, d', hct⟩ : ∃ b d', d.count = (b, d') := ⟨_, _, rfl⟩
  rw [hct] at HST hok'
  change DkOk d' at hok'
  cases bb with
  | false =>
    have HE := one_no (st := stSync i) hct
    clear hR hok hct hok'
    go_enter Tryz.func175, Tryz.ntmps175
    go_wp2_with (first | (go_at_call 176; refine HST.mono ?_; rintro e w1 ⟨rfl, hd⟩; have HD : Hid (RDone G b w d' w1) := hd; clear hd))
    go_ret
    exact ⟨by rw [HE]; rfl, by rw [HE]; exact HD.out⟩
  | true =>
    have HE := one_yes (st := stSync i) hct
    have hfi := count_file hct i
    rw [← hfi] at hf
    obtain ⟨f, hf'⟩ : ∃ f, d'.file i = some f := Option.isSome_iff_exists.1 hf
    have ht1 : txtO (d'.file i) = f.text := by rw [hf']; rfl
    have HCL : Hid (∀ (w1 : World) (q' : RfP), RefAt w1 (Fx G w w1) b d' q' → (w1.cell? ⟨b, 2 + i * 3 + 1, none⟩ = some (.string (S f.text)) ∧ w1.cell? ⟨b, 2 + i * 3 + 2, none⟩ = some (.int .i64 (synO (d'.file i) : Int)) ∧ w1.frozen? ⟨b, 2 + i * 3 + 2, none⟩ = false)) := fun w1 q' h => by
      have h1 := (file_cells h.box hi).2
      rw [ht1] at h1
      exact ⟨h1.1, h1.2, h.box.frozen _⟩
    have z4 : (S f.text).size = f.text.length := S_size _
    have HE2 : Hid (d.one (stSync i) = (0, d'.put i (some ⟨f.text, f.text.length⟩))) := by
      show d.one (stSync i) = (0, d'.put i (some ⟨f.text, f.text.length⟩))
      rw [HE]; unfold Dk.take
      rw [if_neg (by simp [stSync]), show (stSync i).i = i from rfl, hf']
      rfl
    have HPT : Hid (∀ (w1 : World) (q' : RfP), RefAt w1 (Fx G w w1) b d' q' → RefAt (w1.setCell ⟨b, 2 + i * 3 + 2, none⟩ (.int .i64 (f.text.length : Int))) (Fx G w w1) b (d'.put i (some ⟨f.text, f.text.length⟩)) q') := fun w1 q' h => h.synced hi hf' _
    clear hR hok hct hok' HE hfi hf ht1 hf'
    generalize synO (d'.file i) = Y at *
    generalize f.text = ft at *
    go_enter Tryz.func175, Tryz.ntmps175
    go_wp2_with (first | (go_at_call 176; refine HST.mono ?_; rintro e w1 ⟨rfl, hd⟩; have HD : Hid (RDone G b w d' w1) := hd; obtain ⟨⟨q', hq'⟩, hc'⟩ := hd; obtain ⟨k0, k1, kf⟩ := HCL.out w1 q' hq'; have HQ := HPT.out w1 q' hq'; clear hq' hc'))
    go_region
    all_goals
      go_wp2
      go_ret
      refine ⟨by rw [HE2.out]; rfl, ?_⟩
      rw [HE2.out]
      exact (HD.out.at HQ (grown_setB _ _ _ _) hgb (by simp)).below (Below.refl _ _).drew

theorem rsteps_three (d : Dk) (a b c : St) : d.steps [a, b, c] = if (d.one a).1 = 0 then (if ((d.one a).2.one b).1 = 0 then ((d.one a).2.one b).2.one c else (d.one a).2.one b) else d.one a := by
  rw [steps_cons, steps_cons, steps_cons]
  simp only [Dk.steps]
  split
  · split
    · generalize ((d.one a).2.one b).2.one c = r
      obtain ⟨e, x⟩ := r
      split
      · rename_i h; simp only at h; rw [h]
      · rfl
    · rfl
  · rfl
theorem steps_one1 (d : Dk) (a : St) : d.steps [a] = d.one a := by
  rw [steps_cons]
  simp only [Dk.steps]
  generalize d.one a = r
  obtain ⟨e, x⟩ := r
  split
  · rename_i h; simp only at h; rw [h]
  · rfl
theorem one_file {d : Dk} {i : Nat} {t : List UInt8} (hi : i < 3) (h0 : (d.one (stMake i)).1 = 0) (h1 : ((d.one (stMake i)).2.one (stAppend i t)).1 = 0) : (((d.one (stMake i)).2.one (stAppend i t)).2.file i).isSome = true := by
  obtain ⟨bb, d1, hct⟩ : ∃ b d', (d.one (stMake i)).2.count = (b, d') := ⟨_, _, rfl⟩
  cases bb with
  | false => rw [one_no hct] at h1; cases h1
  | true =>
    rw [one_yes hct] at h1 ⊢
    unfold Dk.take at h1 ⊢
    rw [if_neg (by simp [stAppend])] at h1 ⊢
    split at h1
    · cases h1
    · rename_i f hf
      rw [if_pos (show (stAppend i t).tag = 1 from rfl)] at h1 ⊢
      split at h1
      · cases h1
      · rename_i hroom
        rw [if_neg hroom]
        show ((d1.put i (some ⟨f.text ++ t, f.sync⟩)).file i).isSome = true
        rw [file_put _ _ _ _ (show i ≤ 2 by omega), if_pos rfl]
        rfl
theorem make_there {d d' : Dk} {i : Nat} (hi : i < 3) (h : d.count = (true, d')) : d.one (stMake i) = (0, d'.put i (some ⟨[], 0⟩)) := by
  rw [one_yes h]; unfold Dk.take; rw [if_pos (show (stMake i).tag = 0 from rfl)]; rfl
set_option maxRecDepth 100000 in
set_option maxHeartbeats 1600000 in
theorem makes_any (G : Nat → Prop) (b : Nat) (d : Dk) (q : RfP) (i : Nat) (t : List UInt8) (w : World) (hR : RefAt w G b d q) (hok : DkOk d) (hi : i < 3) (ht : t.length ≤ 1000000) :
    Calls Tryz.prog 172 #[.pointer (some ⟨b, 0, none⟩), .int .i64 (i : Int), .string (S t)] w fun e w' => e = .returned (.int .i64 (d.steps [stMake i, stAppend i t, stSync i]).1) ∧ RDone G b w (d.steps [stMake i, stAppend i t, stSync i]).2 w' := by
  have HST := rstep_any G b d q w hR hok
  have hgb := hR.gb
  have hok' := hok.count
  rw [rsteps_three]
  obtain ⟨bb, d', hct⟩ : ∃ b d', d.count = (b, d') := ⟨_, _, rfl⟩
  rw [hct] at HST hok'
  change DkOk d' at hok'
  cases bb with
  | false =>
    have HE : Hid ((if (d.one (stMake i)).1 = 0 then (if ((d.one (stMake i)).2.one (stAppend i t)).1 = 0 then ((d.one (stMake i)).2.one (stAppend i t)).2.one (stSync i) else (d.one (stMake i)).2.one (stAppend i t)) else d.one (stMake i)) = (8, d')) := by
      rw [one_no (st := stMake i) hct]; rfl
    generalize (if (d.one (stMake i)).1 = 0 then (if ((d.one (stMake i)).2.one (stAppend i t)).1 = 0 then ((d.one (stMake i)).2.one (stAppend i t)).2.one (stSync i) else (d.one (stMake i)).2.one (stAppend i t)) else d.one (stMake i)) = R at *
    clear hR hok hct hok'
    go_enter Tryz.func172, Tryz.ntmps172
    go_wp2_with (first | (go_at_call 176; refine HST.mono ?_; rintro e w1 ⟨rfl, hd⟩; have HD : Hid (RDone G b w d' w1) := hd; clear hd))
    go_ret
    exact ⟨by rw [HE.out]; rfl, by rw [HE.out]; exact HD.out⟩
  | true =>
    have hm := make_there hi hct
    have hofile := one_file (d := d) (i := i) (t := t) hi (by rw [hm])
    rw [hm] at hofile ⊢
    rw [if_pos rfl]
    simp only at hofile ⊢
    have hfm : ((d'.put i (some ⟨[], 0⟩)).file i).isSome = true := by rw [file_put _ _ _ _ (show i ≤ 2 by omega), if_pos rfl]; rfl
    have hokm : DkOk (d'.put i (some ⟨[], 0⟩)) := by
      have := hok'.take (s := stMake i) (fine_make i)
      exact this
    have hoka : DkOk ((d'.put i (some ⟨[], 0⟩)).one (stAppend i t)).2 := by
      have := hokm.steps [stAppend i t] (by intro s hs; simp at hs; subst hs; exact fine_append _ _)
      rw [steps_one1] at this
      exact this
    have HMD : Hid (∀ (w1 : World) (q' : RfP), RefAt w1 (Fx G w w1) b d' q' → RDone G b w d' w1 → RDone G b w (d'.put i (some ⟨[], 0⟩)) (((w1.setCell ⟨b, 2 + i * 3, none⟩ (.bool true)).setCell ⟨b, 2 + i * 3 + 1, none⟩ (.string ⟨#[]⟩)).setCell ⟨b, 2 + i * 3 + 2, none⟩ (.int .i64 0))) := fun w1 q' h h2 =>
      h2.at (h.made hi) (grown_trans (grown_trans (grown_setB _ _ _ _) (grown_setB _ _ _ _)) (grown_setB _ _ _ _)) hgb (by simp)
    have HFR : Hid (∀ (w1 : World) (q' : RfP), RefAt w1 (Fx G w w1) b d' q' → (∃ u, w1.cell? ⟨b, 2 + i * 3, none⟩ = some (.bool u)) ∧ (∃ u, w1.cell? ⟨b, 2 + i * 3 + 1, none⟩ = some (.string u)) ∧ (∃ u, w1.cell? ⟨b, 2 + i * 3 + 2, none⟩ = some (.int .i64 u)) ∧ w1.frozen? ⟨b, 2 + i * 3, none⟩ = false ∧ w1.frozen? ⟨b, 2 + i * 3 + 1, none⟩ = false ∧ w1.frozen? ⟨b, 2 + i * 3 + 2, none⟩ = false) := fun w1 q' h => by
      obtain ⟨h1, h2, h3⟩ := file_cells h.box hi
      exact ⟨⟨_, h1⟩, ⟨_, h2⟩, ⟨_, h3⟩, h.box.frozen _, h.box.frozen _, h.box.frozen _⟩
    have HAP : Hid (∀ w1 : World, RDone G b w (d'.put i (some ⟨[], 0⟩)) w1 → Calls Tryz.prog 199 #[.pointer (some ⟨b, 0, none⟩), .int .i64 (i : Int), .string (S t)] w1 fun e w' => e = .returned (.int .i64 ((d'.put i (some ⟨[], 0⟩)).one (stAppend i t)).1) ∧ RDone G b w ((d'.put i (some ⟨[], 0⟩)).one (stAppend i t)).2 w') := fun w1 h => by
      obtain ⟨⟨q1, h1⟩, h2⟩ := h
      exact (appends_any _ b _ q1 i t w1 h1 hokm hi hfm ht).mono fun e w' ⟨a1, a2⟩ => ⟨a1, RDone.then ⟨⟨q1, h1⟩, h2⟩ a2⟩
    have HSY : Hid (((d'.put i (some ⟨[], 0⟩)).one (stAppend i t)).1 = 0 → ∀ w1 : World, RDone G b w ((d'.put i (some ⟨[], 0⟩)).one (stAppend i t)).2 w1 → Calls Tryz.prog 175 #[.pointer (some ⟨b, 0, none⟩), .int .i64 (i : Int)] w1 fun e w' => e = .returned (.int .i64 (((d'.put i (some ⟨[], 0⟩)).one (stAppend i t)).2.one (stSync i)).1) ∧ RDone G b w (((d'.put i (some ⟨[], 0⟩)).one (stAppend i t)).2.one (stSync i)).2 w') := fun h0 w1 h => by
      obtain ⟨⟨q1, h1⟩, h2⟩ := h
      exact (syncs_any _ b _ q1 i w1 h1 hoka hi (hofile h0)).mono fun e w' ⟨a1, a2⟩ => ⟨a1, RDone.then ⟨⟨q1, h1⟩, h2⟩ a2⟩
    clear hofile hoka hfm hm
    generalize (d'.put i (some ⟨[], 0⟩)).one (stAppend i t) = r at *
    obtain ⟨re, rd⟩ := r
    simp only at HAP HSY ⊢
    by_cases h0 : re = 0
    · subst h0
      rw [if_pos rfl]
      have HSY2 : Hid (∀ w1 : World, RDone G b w rd w1 → _) := HSY.out rfl
      clear HSY
      generalize rd.one (stSync i) = r2 at *
      clear hR hok hct hok' hokm
      go_enter Tryz.func172, Tryz.ntmps172
      go_wp2_with (first | (go_at_call 176; refine HST.mono ?_; rintro e w1 ⟨rfl, hd⟩; have HD : Hid (RDone G b w d' w1) := hd; obtain ⟨⟨q', hq'⟩, hc'⟩ := hd; obtain ⟨⟨u0, k0⟩, ⟨u1, k1⟩, ⟨u2, k2⟩, kf0, kf1, kf2⟩ := HFR.out w1 q' hq'; have HQ := HMD.out w1 q' hq' HD.out; have HQ1 := HAP.out _ HQ; clear hq' hc' HQ) | (go_at_call 199; refine HQ1.mono ?_; rintro e w2 ⟨rfl, hd2⟩; have HD2 : Hid (RDone G b w rd w2) := hd2; clear hd2) | (go_at_call 175; refine (HSY2.out w2 HD2.out).mono ?_; rintro e w3 ⟨rfl, hd3⟩; have HD3 : Hid (RDone G b w r2.2 w3) := hd3; clear hd3))
      go_ret
      exact ⟨rfl, HD3.out⟩
    · rw [if_neg h0]
      clear hR hok hct hok' hokm
      go_enter Tryz.func172, Tryz.ntmps172
      go_wp2_with (first | (go_at_call 176; refine HST.mono ?_; rintro e w1 ⟨rfl, hd⟩; have HD : Hid (RDone G b w d' w1) := hd; obtain ⟨⟨q', hq'⟩, hc'⟩ := hd; obtain ⟨⟨u0, k0⟩, ⟨u1, k1⟩, ⟨u2, k2⟩, kf0, kf1, kf2⟩ := HFR.out w1 q' hq'; have HQ := HMD.out w1 q' hq' HD.out; have HQ1 := HAP.out _ HQ; clear hq' hc' HQ) | (go_at_call 199; refine HQ1.mono ?_; rintro e w2 ⟨rfl, hd2⟩; have HD2 : Hid (RDone G b w rd w2) := hd2; clear hd2))
      go_ret
      exact ⟨rfl, HD2.out⟩

theorem RefAt.opened {W : World} {G : Nat → Prop} {b : Nat} {d : Dk} {q : RfP} {blk : Nat} {c1 c2 : Int} (h : RefAt W G b d q) : RefAt (((((W.setCell ⟨b, 13, none⟩ (.bool true)).setCell ⟨b, 14, none⟩ (.int .i64 (blk : Int))).setCell ⟨b, 15, none⟩ (.int .i64 c1)).setCell ⟨b, 16, none⟩ (.int .i64 c2)).setCell ⟨b, 17, none⟩ (.slice none 0 0)) G b (d.opens blk) ⟨q.keep, blk, c1, c2, .slice none 0 0⟩ :=
  ⟨((((h.box.setj 13 _).setj 14 _).setj 15 _).setj 16 _).setj 17 _, World.ownsRow_nil _ _ _ _, fun e => (by cases e), h.left, h.keep, fun b e => by cases e; rfl, h.gb, fun g e => (by cases e)⟩
set_option maxRecDepth 100000 in
set_option maxHeartbeats 1600000 in
theorem opens_any (G : Nat → Prop) (b : Nat) (d : Dk) (q : RfP) (blk : Nat) (c1 c2 : Int) (w : World) (hR : RefAt w G b d q) :
    Calls Tryz.prog 173 #[.pointer (some ⟨b, 0, none⟩), .agg #[.int .i64 (blk : Int), .int .i64 c1, .int .i64 c2]] w fun e w' => e = .returned (.tuple #[]) ∧ RDone G b w (d.opens blk) w' := by
  have hb : ∀ o : Obj, Bx (w.alloc o) b (refC d q) 273 := fun o => hR.box.alloc o
  have f13 := hR.box.frozen 13
  have f14 := hR.box.frozen 14
  have f15 := hR.box.frozen 15
  have f16 := hR.box.frozen 16
  have f17 := hR.box.frozen 17
  have c13 := hR.box.cell (j := 13) rfl
  have c14 := hR.box.cell (j := 14) rfl
  have c15 := hR.box.cell (j := 15) rfl
  have c16 := hR.box.cell (j := 16) rfl
  have c17 := hR.box.cell (j := 17) rfl
  have hlt := hR.box.lt
  have hne : b ≠ w.heap.size := by omega
  have hne2 : w.heap.size ≠ b := by omega
  have HO : Hid (RefAt (((((w.setCell ⟨b, 13, none⟩ (.bool true)).setCell ⟨b, 14, none⟩ (.int .i64 (blk : Int))).setCell ⟨b, 15, none⟩ (.int .i64 c1)).setCell ⟨b, 16, none⟩ (.int .i64 c2)).setCell ⟨b, 17, none⟩ (.slice none 0 0)) G b (d.opens blk) ⟨q.keep, blk, c1, c2, .slice none 0 0⟩) := hR.opened
  have hgb := hR.gb
  clear hR hb
  go_enter Tryz.func173, Tryz.ntmps173
  go_wp2
  refine bodyPost_end (v := .tuple #[]) ?_ rfl ⟨rfl, ?_⟩
  · simp [results, Tryz.results173, go_sem]
  · have h1 : RDone G b w (d.opens blk) (((((w.setCell ⟨b, 13, none⟩ (.bool true)).setCell ⟨b, 14, none⟩ (.int .i64 (blk : Int))).setCell ⟨b, 15, none⟩ (.int .i64 c1)).setCell ⟨b, 16, none⟩ (.int .i64 c2)).setCell ⟨b, 17, none⟩ (.slice none 0 0)) :=
      ⟨⟨_, HO.out.mono (fun k hk => .inl hk)⟩, chg_one (grown_trans (grown_trans (grown_trans (grown_trans (grown_setB _ _ _ _) (grown_setB _ _ _ _)) (grown_setB _ _ _ _)) (grown_setB _ _ _ _)) (grown_setB _ _ _ _)) hgb⟩
    exact h1.below ((Below.refl _ _).alloc (Nat.le_refl _) _)
end Go.Proofs.YtdhgebdbiehchaaGreatDoor
namespace Go.Proofs.YtdhgebdbiehchaaGreatDoor
open Go.RowKit Go.Maps
set_option linter.unusedSimpArgs false
set_option linter.unusedVariables false

theorem rcreate_bad {d : Dk} {a b c : Int} (h : wellB a b c = false) : d.create a b c = (1, d) := by unfold Dk.create; rw [if_pos h]
theorem rcreate_down {d : Dk} {a b c : Int} (h : wellB a b c = true) (hd : d.down = true) : d.create a b c = (7, d) := by unfold Dk.create; rw [if_neg (by simp [h]), if_pos hd]
theorem rcreate_there {d : Dk} {a b c : Int} (h : wellB a b c = true) (hd : d.down = false) (hf : d.f0.isSome = true) : d.create a b c = (5, d) := by unfold Dk.create; rw [if_neg (by simp [h]), if_neg (by simp [hd]), if_pos hf]
theorem rcreate_go {d : Dk} {a b c : Int} (h : wellB a b c = true) (hd : d.down = false) (hf : d.f0.isSome = false) : d.create a b c = d.opening a.toNat [stMake 0, stAppend 0 (headL a.toNat b.toNat c.toNat), stSync 0] := by unfold Dk.create; rw [if_neg (by simp [h]), if_neg (by simp [hd]), if_neg (by simp [hf])]
set_option maxRecDepth 100000 in
set_option maxHeartbeats 1600000 in
theorem rcreate_any (G : Nat → Prop) (b : Nat) (d : Dk) (q : RfP) (x y z : Int) (w : World) (hR : RefAt w G b d q) (hok : DkOk d) (hGz : ∀ k, G k → k < w.heap.size) :
    Calls Tryz.prog 118 #[.pointer (some ⟨b, 0, none⟩), .agg #[.int .i64 x, .int .i64 y, .int .i64 z]] w fun e w' => e = .returned (.int .i64 (d.create x y z).1) ∧ RDone G b w (d.create x y z).2 w' := by
  have HWL : Hid (∀ wx : World, _) := fun wx => well_any x y z wx
  have HS0 : Hid (∀ w1 : World, Below w.heap.size w w1 → RDone G b w d w1) := fun w1 hb => RDone.of_below hR hb
  have HB0 : Hid (∀ w1 : World, Below (w.alloc (.cells #[.int .i64 x, .int .i64 y, .int .i64 z] 29)).heap.size (w.alloc (.cells #[.int .i64 x, .int .i64 y, .int .i64 z] 29)) w1 → Below w.heap.size w w1) := fun w1 hb => ((Below.refl _ _).alloc (Nat.le_refl _) _).trans (hb.mono (by simp))
  have HXC : Hid (∀ w1 : World, Below (w.alloc (.cells #[.int .i64 x, .int .i64 y, .int .i64 z] 29)).heap.size (w.alloc (.cells #[.int .i64 x, .int .i64 y, .int .i64 z] 29)) w1 → Bx w1 w.heap.size #[.int .i64 x, .int .i64 y, .int .i64 z] 29) := fun w1 hb => (bx_new w _ _ rfl).below hb (by simp)
  have HCL : Hid (∀ w1 : World, Below w.heap.size w w1 → w1.cell? ⟨b, 1, none⟩ = some (.bool d.down) ∧ w1.cell? ⟨b, 2, none⟩ = some (.bool d.f0.isSome)) := fun w1 hb => by
    have := hR.box.below hb hR.box.lt
    exact ⟨this.cell (j := 1) rfl, this.cell (j := 2) rfl⟩
  cases hw : wellB x y z with
  | false =>
    have HE : Hid (d.create x y z = (1, d)) := rcreate_bad hw
    rw [hw] at HWL
    clear hR hok hGz
    go_enter Tryz.func118, Tryz.ntmps118
    go_wp2_with (first | (go_at_call 171; refine (HWL.out _).mono ?_; rintro e w1 ⟨rfl, hb⟩; have HB := HB0.out w1 hb; clear hb))
    go_ret
    exact ⟨by rw [HE.out]; rfl, by rw [HE.out]; exact HS0.out _ HB⟩
  | true =>
    rw [hw] at HWL
    cases hd : d.down with
    | true =>
      have HE : Hid (d.create x y z = (7, d)) := rcreate_down hw hd
      rw [hd] at HCL
      clear hR hok hGz
      go_enter Tryz.func118, Tryz.ntmps118
      go_wp2_with (first | (go_at_call 171; refine (HWL.out _).mono ?_; rintro e w1 ⟨rfl, hb⟩; have HB : Hid (Below w.heap.size w w1) := HB0.out w1 hb; obtain ⟨k1, k2⟩ := HCL.out w1 HB.out; clear hb))
      go_ret
      exact ⟨by rw [HE.out]; rfl, by rw [HE.out]; exact HS0.out _ HB.out⟩
    | false =>
      rw [hd] at HCL
      cases hf : d.f0.isSome with
      | true =>
        have HE : Hid (d.create x y z = (5, d)) := rcreate_there hw hd hf
        rw [hf] at HCL
        clear hR hok hGz
        go_enter Tryz.func118, Tryz.ntmps118
        go_wp2_with (first | (go_at_call 171; refine (HWL.out _).mono ?_; rintro e w1 ⟨rfl, hb⟩; have HB : Hid (Below w.heap.size w w1) := HB0.out w1 hb; obtain ⟨k1, k2⟩ := HCL.out w1 HB.out; clear hb))
        go_ret
        exact ⟨by rw [HE.out]; rfl, by rw [HE.out]; exact HS0.out _ HB.out⟩
      | false =>
        rw [hf] at HCL
        have HE := rcreate_go hw hd hf
        have hwb : 0 ≤ x ∧ x ≤ 400 ∧ 0 ≤ y ∧ y ≤ 4294967295 ∧ 0 ≤ z ∧ z ≤ 32 := by unfold wellB at hw; simp at hw; omega
        obtain ⟨x, rfl⟩ : ∃ n : Nat, x = n := ⟨x.toNat, by omega⟩
        rw [opening_eq] at HE
        have HHD : Hid (∀ wx : World, Calls Tryz.prog 61 #[.agg #[.int .i64 (x : Int), .int .i64 y, .int .i64 z]] wx fun e w' => e = .returned (.string (S (headL x y.toNat z.toNat))) ∧ Below wx.heap.size wx w') := fun wx => head_any x y z wx (by omega) (by omega) (by omega) (by omega) (by omega) (by omega)
        have HMK : Hid (∀ w1 : World, Below w.heap.size w w1 → Calls Tryz.prog 172 #[.pointer (some ⟨b, 0, none⟩), .int .i64 0, .string (S (headL x y.toNat z.toNat))] w1 fun e w' => e = .returned (.int .i64 (d.steps [stMake 0, stAppend 0 (headL x y.toNat z.toNat), stSync 0]).1) ∧ RDone G b w1 (d.steps [stMake 0, stAppend 0 (headL x y.toNat z.toNat), stSync 0]).2 w') := fun w1 hb =>
          makes_any G b d q 0 (headL x y.toNat z.toNat) w1 (hR.below hb) hok (by omega) (by rw [headL_length]; omega)
        have HE2 : Hid (d.create (x : Int) y z = if (d.steps [stMake 0, stAppend 0 (headL x y.toNat z.toNat), stSync 0]).1 = 0 then (0, (d.steps [stMake 0, stAppend 0 (headL x y.toNat z.toNat), stSync 0]).2.opens x) else d.steps [stMake 0, stAppend 0 (headL x y.toNat z.toNat), stSync 0]) := HE
        clear HE
        generalize headL x y.toNat z.toNat = hd14 at *
        generalize d.steps [stMake 0, stAppend 0 hd14, stSync 0] = r at *
        obtain ⟨re, rd⟩ := r
        simp only at HE2 HMK
        have HXK : Hid (∀ w1 w2 : World, Below (w.alloc (.cells #[.int .i64 (x : Int), .int .i64 y, .int .i64 z] 29)).heap.size (w.alloc (.cells #[.int .i64 (x : Int), .int .i64 y, .int .i64 z] 29)) w1 → RDone G b w1 rd w2 → w2.cell? ⟨w.heap.size, 0, none⟩ = some (.int .i64 (x : Int)) ∧ w2.cell? ⟨w.heap.size, 1, none⟩ = some (.int .i64 y) ∧ w2.cell? ⟨w.heap.size, 2, none⟩ = some (.int .i64 z)) := fun w1 w2 hb h2 => by
          have := (HXC.out w1 hb).chg h2.2 (fun hg => absurd (hGz _ hg) (by omega))
          exact ⟨this.cell (j := 0) rfl, this.cell (j := 1) rfl, this.cell (j := 2) rfl⟩
        by_cases h0 : re = 0
        · subst h0
          have HE3 : Hid (d.create (x : Int) y z = (0, rd.opens x)) := HE2
          have HOP : Hid (∀ w1 w2 : World, Below w.heap.size w w1 → RDone G b w1 rd w2 → Calls Tryz.prog 173 #[.pointer (some ⟨b, 0, none⟩), .agg #[.int .i64 (x : Int), .int .i64 y, .int .i64 z]] w2 fun e w' => e = .returned (.tuple #[]) ∧ RDone G b w (rd.opens x) w') := fun w1 w2 hb h => by
            have h' := h
            obtain ⟨⟨q1, h1⟩, h2⟩ := h'
            exact (opens_any _ b rd q1 x y z w2 h1).mono fun e w' ⟨a1, a2⟩ => ⟨a1, RDone.later hb (h.then a2)⟩
          clear hR hok hGz HE2 HS0
          go_enter Tryz.func118, Tryz.ntmps118
          go_wp2_with (first | (go_at_call 171; refine (HWL.out _).mono ?_; rintro e w1 ⟨rfl, hb⟩; have HB : Hid (Below w.heap.size w w1) := HB0.out w1 hb; have hx := HXC.out w1 hb; have x0 := hx.cell (j := 0) rfl; have x1 := hx.cell (j := 1) rfl; have x2 := hx.cell (j := 2) rfl; have HBA : Hid (Below _ _ w1) := hb; obtain ⟨k1, k2⟩ := HCL.out w1 HB.out; clear hb hx) | (go_at_call 61; refine (HHD.out _).mono ?_; rintro e w2 ⟨rfl, hb⟩; have HB2 : Hid (Below w.heap.size w w2) := HB.out.trans (hb.mono HB.out.size); have HBA2 : Hid (Below _ _ w2) := HBA.out.trans (hb.mono HBA.out.size); clear hb) | (go_at_call 172; refine (HMK.out w2 HB2.out).mono ?_; rintro e w3 ⟨rfl, hd3⟩; obtain ⟨y0, y1, y2⟩ := HXK.out w2 w3 HBA2.out hd3; have HD3 : Hid (RDone G b w2 rd w3) := hd3; clear hd3) | (go_at_call 173; refine (HOP.out w2 w3 HB2.out HD3.out).mono ?_; rintro e w4 ⟨rfl, hd4⟩; have HD4 : Hid (RDone G b w (rd.opens x) w4) := hd4; clear hd4))
          go_ret
          exact ⟨by rw [HE3.out]; rfl, by rw [HE3.out]; exact HD4.out⟩
        · have HE3 : Hid (d.create (x : Int) y z = (re, rd)) := by
            have := HE2.out
            rw [if_neg h0] at this
            exact this
          clear hR hok hGz HE2 HS0
          go_enter Tryz.func118, Tryz.ntmps118
          go_wp2_with (first | (go_at_call 171; refine (HWL.out _).mono ?_; rintro e w1 ⟨rfl, hb⟩; have HB : Hid (Below w.heap.size w w1) := HB0.out w1 hb; have hx := HXC.out w1 hb; have x0 := hx.cell (j := 0) rfl; have x1 := hx.cell (j := 1) rfl; have x2 := hx.cell (j := 2) rfl; obtain ⟨k1, k2⟩ := HCL.out w1 HB.out; clear hb hx) | (go_at_call 61; refine (HHD.out _).mono ?_; rintro e w2 ⟨rfl, hb⟩; have HB2 : Hid (Below w.heap.size w w2) := HB.out.trans (hb.mono HB.out.size); clear hb) | (go_at_call 172; refine (HMK.out w2 HB2.out).mono ?_; rintro e w3 ⟨rfl, hd3⟩; have HD3 : Hid (RDone G b w2 rd w3) := hd3; clear hd3))
          go_ret
          exact ⟨by rw [HE3.out]; rfl, by rw [HE3.out]; exact RDone.later HB2.out HD3.out⟩
end Go.Proofs.YtdhgebdbiehchaaGreatDoor
namespace Go.Proofs.YtdhgebdbiehchaaGreatDoor
open Go.RowKit Go.Maps
set_option linter.unusedSimpArgs false
set_option linter.unusedVariables false

def entsT (ws : List Ent) : List (Bool × ByteArray × ByteArray) := ws.map fun e => (e.put, S e.key, S e.val)
theorem entB_L (e : Ent) : entryL e.put (S e.key).data.toList (S e.val).data.toList = entB e := by
  unfold entryL entB
  rw [show (S e.key).data.toList = e.key from rfl, show (S e.val).data.toList = e.val from rfl]
  have f : ∀ n, lowL n 1 = [UInt8.ofNat n] := fun n => by
    simp [lowL]
    apply UInt8.toNat_inj.1
    simp
  rw [f, f]
  cases e.put <;> simp
theorem entsT_L (ws : List Ent) : entsL (entsT ws) = entsB ws := by
  induction ws with
  | nil => rfl
  | cons e ws ih =>
    have h1 : entsL (entsT (e :: ws)) = entryL e.put (S e.key).data.toList (S e.val).data.toList ++ entsL (entsT ws) := rfl
    rw [h1, ih, entB_L]
    simp [entsB]
theorem blockT_L (ws : List Ent) : blockL (entsT ws) = blockB ws := by
  unfold blockL blockB
  rw [entsT_L, show (entsT ws).length = ws.length by simp [entsT]]
theorem ent_sizes {ws : List Ent} (h : ∀ e ∈ ws, EntOk e) : (entsB ws).length ≤ 53 * ws.length := by
  induction ws with
  | nil => simp [entsB]
  | cons e ws ih =>
    have h1 := h e (by simp)
    have h2 := ih (fun x hx => h x (by simp [hx]))
    have : entsB (e :: ws) = entB e ++ entsB ws := by simp [entsB]
    rw [this, List.length_append]
    have : (entB e).length = 3 + e.key.length + e.val.length := by simp [entB]; omega
    obtain ⟨a, b, c, _⟩ := h1
    simp
    omega
theorem refBlock_row {W : World} {v : Value} {ws : List Ent} (h : W.ownsRow 0 114 3 v ws.length (cellsE ws)) (hne : ws ≠ []) (hok : ∀ e ∈ ws, EntOk e) (hl : ws.length ≤ 255) :
    Calls Tryz.prog 62 #[v] W fun e w' => e = .returned (.string (S (blockB ws))) ∧ Below W.heap.size W w' := by
  have hpos : 0 < ws.length := by cases ws with | nil => exact absurd rfl hne | cons _ _ => simp
  obtain ⟨g, cap, rfl, _, hg, hc⟩ := own_cellsN h hpos
  have el : (entsT ws).length = ws.length := by simp [entsT]
  have := block_any g cap (entsT ws) W hg ?_ (by omega) ?_
  · rw [blockT_L, el] at this
    exact this
  · intro i hi
    have hi' : i < ws.length := by omega
    obtain ⟨a, b, c⟩ := cellsE_get hi'
    have e1 : (entsT ws)[i] = (ws[i].put, S ws[i].key, S ws[i].val) := by simp [entsT]
    rw [e1]
    exact ⟨(hc _ (by omega)).trans a, (hc _ (by omega)).trans b, (hc _ (by omega)).trans c⟩
  · intro e he
    simp [entsT] at he
    obtain ⟨x, hx, rfl⟩ := he
    obtain ⟨a, b, c, _⟩ := hok x hx
    simp only [S_size]
    omega
theorem RefAt.emptied {W : World} {G : Nat → Prop} {b : Nat} {d : Dk} {q : RfP} (h : RefAt W G b d q) : RefAt (W.setCell ⟨b, 17, none⟩ (.slice none 0 0)) G b { d with waits := [] } (nilP q) :=
  ⟨h.box.setj 17 _, World.ownsRow_nil _ _ _ _, fun e => (by cases e), h.left, h.keep, h.blk, h.gb, fun g e => (by cases e)⟩
theorem rwrites_none (b : Nat) (d : Dk) (q : RfP) (w : World) (G : Nat → Prop) (hR : RefAt w G b d q) (hw : d.waits = []) :
    Calls Tryz.prog 174 #[.pointer (some ⟨b, 0, none⟩)] w fun e w' => e = .returned (.int .i64 0) ∧ w' = w := by
  have c17 : w.cell? ⟨b, 17, none⟩ = some q.v := hR.box.cell (j := 17) rfl
  obtain ⟨a, cp, hv⟩ := own_len hR.row
  rw [hv, hw] at c17
  have c17' : w.cell? ⟨b, 17, none⟩ = some (.slice a 0 cp) := c17
  clear c17 hv hR
  go_enter Tryz.func174, Tryz.ntmps174
  go_wp2
  go_ret
  exact ⟨rfl, rfl⟩
set_option maxRecDepth 100000 in
set_option maxHeartbeats 1600000 in
theorem rwrites_some (G : Nat → Prop) (b : Nat) (d : Dk) (q : RfP) (w : World) (hR : RefAt w G b d q) (hok : DkOk d) (hw : d.waits ≠ []) (hf : d.f0.isSome = true) :
    Calls Tryz.prog 174 #[.pointer (some ⟨b, 0, none⟩)] w fun e w' => e = .returned (.int .i64 d.write.1) ∧ RDone G b w d.write.2 w' := by
  have hpos : 0 < d.waits.length := by
    cases hc : d.waits with
    | nil => exact absurd hc hw
    | cons _ _ => simp
  have hl := hok.most
  have hsz := ent_sizes hok.ents
  have hbl : (blockB d.waits).length ≤ 1000000 := by unfold blockB; rw [sealL_length]; simp [lowL_length]; omega
  have HBK := refBlock_row hR.row hw hok.ents hl
  obtain ⟨g, cap, hv, _, _, _⟩ := own_cellsN hR.row hpos
  have c17 : w.cell? ⟨b, 17, none⟩ = some q.v := hR.box.cell (j := 17) rfl
  rw [hv] at c17 HBK
  have hgb := hR.gb
  have HAP : Hid (∀ w1 : World, Below w.heap.size w w1 → Calls Tryz.prog 199 #[.pointer (some ⟨b, 0, none⟩), .int .i64 0, .string (S (blockB d.waits))] w1 fun e w' => e = .returned (.int .i64 (d.steps [stAppend 0 (blockB d.waits)]).1) ∧ RDone G b w (d.steps [stAppend 0 (blockB d.waits)]).2 w') := fun w1 hb => by
    rw [steps_one1]
    exact (appends_any G b d q 0 (blockB d.waits) w1 (hR.below hb) hok (by omega) hf hbl).mono fun e w' ⟨a1, a2⟩ => ⟨a1, RDone.later hb a2⟩
  have HWE := write_eq d
  have hnz : ¬ ((d.waits.length : Int) = 0) := by omega
  have hnz2 : d.waits.length ≠ 0 := by omega
  generalize d.steps [stAppend 0 (blockB d.waits)] = r at *
  obtain ⟨re, rd⟩ := r
  simp only at HWE HAP
  clear hsz hbl
  generalize blockB d.waits = bl at *
  generalize d.waits.length = n at *
  by_cases h0 : re = 0
  · subst h0
    rw [if_pos rfl] at HWE
    have HE : Hid (d.write = (0, { rd with waits := [] })) := HWE
    have HCL : Hid (∀ w2 : World, RDone G b w rd w2 → ∃ q2, w2.cell? ⟨b, 17, none⟩ = some (RfP.v q2) ∧ w2.frozen? ⟨b, 17, none⟩ = false ∧ RefAt w2 (Fx G w w2) b rd q2) := fun w2 h => by
      obtain ⟨⟨q2, h1⟩, h2⟩ := h
      exact ⟨q2, h1.box.cell (j := 17) rfl, h1.box.frozen 17, h1⟩
    clear hR hok hw hf HWE hv
    go_enter Tryz.func174, Tryz.ntmps174
    go_wp2_with (first | (go_at_call 62; refine HBK.mono ?_; rintro e w1 ⟨rfl, hb⟩; have HB : Hid (Below w.heap.size w w1) := hb; clear hb) | (go_at_call 199; refine (HAP.out w1 HB.out).mono ?_; rintro e w2 ⟨rfl, hd2⟩; obtain ⟨q2, k17, kf17, hq2⟩ := HCL.out w2 hd2; have HD2 : Hid (RDone G b w rd w2) := hd2; have HQ2 : Hid (RefAt w2 (Fx G w w2) b rd q2) := hq2; clear hd2 hq2))
    go_ret
    refine ⟨by rw [HE.out]; rfl, ?_⟩
    rw [HE.out]
    exact HD2.out.at HQ2.out.emptied (grown_setB _ _ _ _) hgb (by simp)
  · rw [if_neg h0] at HWE
    have HE : Hid (d.write = (re, rd)) := HWE
    clear hR hok hw hf HWE hv
    go_enter Tryz.func174, Tryz.ntmps174
    go_wp2_with (first | (go_at_call 62; refine HBK.mono ?_; rintro e w1 ⟨rfl, hb⟩; have HB : Hid (Below w.heap.size w w1) := hb; clear hb) | (go_at_call 199; refine (HAP.out w1 HB.out).mono ?_; rintro e w2 ⟨rfl, hd2⟩; have HD2 : Hid (RDone G b w rd w2) := hd2; clear hd2))
    go_ret
    exact ⟨by rw [HE.out]; rfl, by rw [HE.out]; exact HD2.out⟩
theorem steps_f0' {d : Dk} {t : List UInt8} (h : d.f0.isSome = true) : d.write.2.f0.isSome = true := by
  have := steps_f0 h [stAppend 0 (blockB d.waits)] (by intro s hs; simp at hs; subst hs; exact fine_append _ _)
  rw [write_eq]
  split
  · exact this
  · exact this
set_option maxRecDepth 100000 in
set_option maxHeartbeats 1600000 in
theorem rflush_any (G : Nat → Prop) (b : Nat) (d : Dk) (q : RfP) (w : World) (hR : RefAt w G b d q) (hok : DkOk d) :
    Calls Tryz.prog 120 #[.pointer (some ⟨b, 0, none⟩)] w fun e w' => e = .returned (.int .i64 d.flush.1) ∧ RDone G b w d.flush.2 w' := by
  have c1 : w.cell? ⟨b, 1, none⟩ = some (.bool d.down) := hR.box.cell (j := 1) rfl
  have c13 : w.cell? ⟨b, 13, none⟩ = some (.bool d.opn.isSome) := hR.box.cell (j := 13) rfl
  have HS0 : Hid (RDone G b w d w) := RDone.refl hR
  cases hd : d.down with
  | true =>
    have HE : Hid (d.flush = (7, d)) := flush_down hd
    rw [hd] at c1
    clear hR hok
    go_enter Tryz.func120, Tryz.ntmps120
    go_wp2
    go_ret
    exact ⟨by rw [HE.out]; rfl, by rw [HE.out]; exact HS0.out⟩
  | false =>
    rw [hd] at c1
    cases ho : d.opn with
    | none =>
      have HE : Hid (d.flush = (2, d)) := flush_none hd ho
      rw [ho] at c13
      have c13' : w.cell? ⟨b, 13, none⟩ = some (.bool false) := c13
      clear hR hok c13
      go_enter Tryz.func120, Tryz.ntmps120
      go_wp2
      go_ret
      exact ⟨by rw [HE.out]; rfl, by rw [HE.out]; exact HS0.out⟩
    | some blk =>
      rw [ho] at c13
      have c13' : w.cell? ⟨b, 13, none⟩ = some (.bool true) := c13
      have hf := (hok.opn blk ho).1
      cases hwe : d.waits.isEmpty with
      | true =>
        have hwn : d.waits = [] := List.isEmpty_iff.1 hwe
        have HE : Hid (d.flush = d.one (stSync 0)) := by show _ = _; rw [flush_sync hd ho hwe, steps_one1]
        have HWR := rwrites_none b d q w G hR hwn
        have HSY := syncs_any G b d q 0 w hR hok (by omega) hf
        generalize d.one (stSync 0) = r at *
        clear hR hok c13 HS0
        go_enter Tryz.func120, Tryz.ntmps120
        go_wp2_with (first | (go_at_call 174; refine HWR.mono ?_; rintro e w ⟨rfl, rfl⟩) | (go_at_call 175; refine HSY.mono ?_; rintro e w2 ⟨rfl, hd2⟩; have HD2 : Hid _ := hd2; clear hd2))
        go_ret
        exact ⟨by rw [HE.out]; rfl, by rw [HE.out]; exact HD2.out⟩
      | false =>
        have hne : d.waits ≠ [] := by intro e; rw [e] at hwe; cases hwe
        have HWR := rwrites_some G b d q w hR hok hne hf
        have HFL := flush_write hd ho hwe
        have hfine := write_fine hok hd
        have hf2 := steps_f0' (d := d) (t := []) hf
        generalize d.write = r at *
        obtain ⟨re, rd⟩ := r
        simp only at HFL hfine HWR hf2
        by_cases h0 : re = 0
        · subst h0
          rw [if_pos rfl, steps_one1] at HFL
          obtain ⟨f1, f2, f3, f4⟩ := hfine rfl
          have HE : Hid (d.flush = rd.one (stSync 0)) := HFL
          have HSY : Hid (∀ w1 : World, RDone G b w rd w1 → Calls Tryz.prog 175 #[.pointer (some ⟨b, 0, none⟩), .int .i64 0] w1 fun e w' => e = .returned (.int .i64 (rd.one (stSync 0)).1) ∧ RDone G b w (rd.one (stSync 0)).2 w') := fun w1 h => by
            have h' := h
            obtain ⟨⟨q1, h1⟩, h2⟩ := h'
            exact (syncs_any _ b rd q1 0 w1 h1 f1 (by omega) hf2).mono fun e w' ⟨a1, a2⟩ => ⟨a1, h.then a2⟩
          generalize rd.one (stSync 0) = r at *
          clear hR hok c13 HS0 HFL hfine f1 f2 f3 f4 hf2
          go_enter Tryz.func120, Tryz.ntmps120
          go_wp2_with (first | (go_at_call 174; refine HWR.mono ?_; rintro e w1 ⟨rfl, hd1⟩; have HD1 : Hid (RDone G b w rd w1) := hd1; clear hd1) | (go_at_call 175; refine (HSY.out w1 HD1.out).mono ?_; rintro e w2 ⟨rfl, hd2⟩; have HD2 : Hid (RDone G b w r.2 w2) := hd2; clear hd2))
          go_ret
          exact ⟨by rw [HE.out]; rfl, by rw [HE.out]; exact HD2.out⟩
        · rw [if_neg h0] at HFL
          have HE : Hid (d.flush = (re, rd)) := HFL
          clear hR hok c13 HS0 HFL hfine hf2
          go_enter Tryz.func120, Tryz.ntmps120
          go_wp2_with (first | (go_at_call 174; refine HWR.mono ?_; rintro e w1 ⟨rfl, hd1⟩; have HD1 : Hid (RDone G b w rd w1) := hd1; clear hd1))
          go_ret
          exact ⟨by rw [HE.out]; rfl, by rw [HE.out]; exact HD1.out⟩
end Go.Proofs.YtdhgebdbiehchaaGreatDoor
namespace Go.Proofs.YtdhgebdbiehchaaGreatDoor
open Go.RowKit Go.Maps
set_option linter.unusedSimpArgs false
set_option linter.unusedVariables false

theorem entsB_cat (ws : List Ent) (e : Ent) : entsB (ws ++ [e]) = entsB ws ++ entB e := by simp [entsB]
theorem entsB_take {ws : List Ent} {k : Nat} (h : k < ws.length) : (entsB (ws.take (k + 1))).length = (entsB (ws.take k)).length + (entB ws[k]).length := by
  rw [List.take_succ_eq_append_getElem h, entsB_cat, List.length_append]
/-- An entry more, behind those that wait. -/
theorem app_ent {W : World} {v : Value} {ws : List Ent} {en : Ent} {g0 : Nat} (h1 : W.ownsRow 0 114 3 v ws.length (cellsE ws)) (hg : ∀ j u, [Value.bool en.put, .string (S en.key), .string (S en.val)][j]? = some u → W.cell? ((⟨g0, 0, none⟩ : Addr).add j) = some u) (hl : ws.length ≤ 1000000) :
    ∃ g cap w', (Builtin.append_ #[115, 115] 115 #[v, .slice (some ⟨g0, 0, none⟩) 1 1]).run Tryz.prog W = .ok (.slice (some ⟨g, 0, none⟩) (ws.length + 1) cap) w' ∧
      w'.ownsRow 0 114 3 (.slice (some ⟨g, 0, none⟩) (ws ++ [en]).length cap) (ws ++ [en]).length (cellsE (ws ++ [en])) ∧ W.grownBy w' v.ownBlock ∧ (v.ownBlock = some g ∨ g = W.heap.size) ∧ g < w'.heap.size := by
  obtain ⟨i0, hi, hz0, hz1, hz2⟩ := info_parts info_ent
  obtain ⟨g, cap, w', a1, a2, a3, a4, a5⟩ := run_append_lies (P := Tryz.prog) W 115 115 0 114 i0 (.agg #[.bool false, .string ⟨#[]⟩, .string ⟨#[]⟩]) 3 40 Tryz.underlying115 hi hz0 hz1 hz2 rfl (by decide) v ws.length (cellsE ws) h1 ⟨g0, 0, none⟩ 1 1 [.bool en.put, .string (S en.key), .string (S en.val)] rfl hg (by simp [Value.oneCell']) (by omega) (by unfold maxLen; omega) (by omega) (Nat.zero_le _) _ rfl
  rw [← cellsE_snoc] at a2
  rw [List.length_append]
  exact ⟨g, cap, w', a1, a2, a3, a4, a5⟩
/-- The store behind it. -/
theorem RefAt.waited {W X : World} {G : Nat → Prop} {b : Nat} {d : Dk} {q : RfP} {en : Ent} {g cap : Nat} (h : RefAt W G b d q) (hX : W.grownBy X q.v.ownBlock) (ho : X.ownsRow 0 114 3 (.slice (some ⟨g, 0, none⟩) (d.waits ++ [en]).length cap) (d.waits ++ [en]).length (cellsE (d.waits ++ [en]))) (hat : q.v.ownBlock = some g ∨ W.heap.size ≤ g) (hg : g < X.heap.size) :
    RefAt (X.setCell ⟨b, 17, none⟩ (.slice (some ⟨g, 0, none⟩) (d.waits ++ [en]).length cap)) (Fx G W X) b { d with waits := d.waits ++ [en] } ⟨q.keep, q.c0, q.c1, q.c2, .slice (some ⟨g, 0, none⟩) (d.waits ++ [en]).length cap⟩ := by
  have hlt := h.box.lt
  have hne : (Value.slice (some ⟨g, 0, none⟩) (d.waits ++ [en]).length cap).ownBlock ≠ some b := by
    intro e
    have e' : g = b := by simpa [Value.ownBlock] using e
    rcases hat with h5 | h5
    · exact h.ne (by rw [h5, e'])
    · omega
  have hbx : Bx X b (refC d q) 273 := (hX.block b hlt (fun e => h.ne e.symm)).trans h.box
  refine ⟨hbx.setj 17 _, own_box (cs := refC d q) (t := 0) ho hne 17 _, hne, h.left, h.keep, h.blk, .inl h.gb, fun k e => ?_⟩
  have e' : g = k := by simpa [Value.ownBlock] using e
  subst e'
  rcases hat with h5 | h5
  · exact .inl (h.gv _ h5)
  · exact .inr ⟨h5, hg⟩
theorem RDone.waited {W0 W X Y : World} {G : Nat → Prop} {b : Nat} {d : Dk} {q : RfP} {en : Ent} {g cap : Nat} (hD : RDone G b W0 d W) (h : RefAt W (Fx G W0 W) b d q) (hb : Below W.heap.size W Y) (hX : Y.grownBy X q.v.ownBlock) (ho : X.ownsRow 0 114 3 (.slice (some ⟨g, 0, none⟩) (d.waits ++ [en]).length cap) (d.waits ++ [en]).length (cellsE (d.waits ++ [en]))) (hat : q.v.ownBlock = some g ∨ g = Y.heap.size) (hg : g < X.heap.size) :
    RDone G b W0 { d with waits := d.waits ++ [en] } (X.setCell ⟨b, 17, none⟩ (.slice (some ⟨g, 0, none⟩) (d.waits ++ [en]).length cap)) := by
  have hc := hD.2
  have hY := h.below hb
  have hR := RefAt.waited hY hX ho (hat.imp id (fun e => by omega)) hg
  have hzz : (X.setCell ⟨b, 17, none⟩ (.slice (some ⟨g, 0, none⟩) (d.waits ++ [en]).length cap)).heap.size = X.heap.size := by simp
  have z1 := hc.size
  have z2 := hb.size
  have z3 := hX.size
  refine ⟨⟨_, hR.mono ?_⟩, ?_⟩
  · rintro k ((hk | hk) | hk)
    · exact .inl hk
    · exact .inr ⟨hk.1, by rw [hzz]; omega⟩
    · exact .inr ⟨by omega, by rw [hzz]; exact hk.2⟩
  · have c1 := hc.trans0 hb
    have c2 : Chg G W0 X := c1.grown hX (fun k e => by
      rcases h.gv k e with h5 | h5
      · exact .inl h5
      · exact .inr h5.1)
    refine c2.set b 17 _ ?_
    rcases h.gb with h5 | h5
    · exact .inl h5
    · exact .inr h5.1
theorem radd_bad {d : Dk} {e : Ent} (h : e.key.length < 1 ∨ 20 < e.key.length ∨ 30 < e.val.length) : d.add e = (1, d) := by unfold Dk.add; rw [if_pos h]
theorem radd_down {d : Dk} {e : Ent} (h : ¬ (e.key.length < 1 ∨ 20 < e.key.length ∨ 30 < e.val.length)) (hd : d.down = true) : d.add e = (7, d) := by unfold Dk.add; rw [if_neg h, if_pos hd]
theorem radd_none {d : Dk} {e : Ent} (h : ¬ (e.key.length < 1 ∨ 20 < e.key.length ∨ 30 < e.val.length)) (hd : d.down = false) (ho : d.opn = none) : d.add e = (2, d) := by unfold Dk.add; rw [if_neg h, if_neg (by simp [hd]), ho]
theorem radd_fits {d : Dk} {e : Ent} {blk : Nat} (h : ¬ (e.key.length < 1 ∨ 20 < e.key.length ∨ 30 < e.val.length)) (hd : d.down = false) (ho : d.opn = some blk) (hf : d.fits blk e = true) : d.add e = (0, { d with waits := d.waits ++ [e] }) := by unfold Dk.add; rw [if_neg h, if_neg (by simp [hd]), ho]; simp only; rw [if_pos hf]
theorem radd_writes {d : Dk} {e : Ent} {blk : Nat} (h : ¬ (e.key.length < 1 ∨ 20 < e.key.length ∨ 30 < e.val.length)) (hd : d.down = false) (ho : d.opn = some blk) (hf : d.fits blk e = false) : d.add e = if d.write.1 = 0 then (0, { d.write.2 with waits := d.write.2.waits ++ [e] }) else d.write := by
  unfold Dk.add; rw [if_neg h, if_neg (by simp [hd]), ho]; simp only; rw [if_neg (by simp [hf])]
theorem xbox {w w1 : World} {cs : Array Value} {t : TypeId} (hb : Below (w.alloc (.cells cs t)).heap.size (w.alloc (.cells cs t)) w1) : Bx w1 w.heap.size cs t := (bx_new w cs t rfl).below hb (by simp)
set_option maxRecDepth 100000 in
set_option maxHeartbeats 1600000 in
theorem radd_not (G : Nat → Prop) (b : Nat) (d : Dk) (q : RfP) (en : Ent) (w : World) (hR : RefAt w G b d q) (h : (en.key.length < 1 ∨ 20 < en.key.length ∨ 30 < en.val.length) ∨ d.down = true ∨ d.opn = none) :
    Calls Tryz.prog 119 #[.pointer (some ⟨b, 0, none⟩), .agg #[.bool en.put, .string (S en.key), .string (S en.val)]] w fun e w' => e = .returned (.int .i64 (d.add en).1) ∧ RDone G b w (d.add en).2 w' := by
  have HB : Hid (Below w.heap.size w (w.alloc (.cells #[.bool en.put, .string (S en.key), .string (S en.val)] 114))) := (Below.refl _ _).alloc (Nat.le_refl _) _
  have HS0 : Hid (RDone G b w d (w.alloc (.cells #[.bool en.put, .string (S en.key), .string (S en.val)] 114))) := RDone.of_below hR HB.out
  have hzk : (S en.key).size = en.key.length := S_size _
  have hzv : (S en.val).size = en.val.length := S_size _
  have c1 : w.cell? ⟨b, 1, none⟩ = some (.bool d.down) := hR.box.cell (j := 1) rfl
  have c13 : w.cell? ⟨b, 13, none⟩ = some (.bool d.opn.isSome) := hR.box.cell (j := 13) rfl
  have hbl := hR.box.lt
  by_cases hkb : keyB (S en.key) = true
  · have HK : Hid (∀ wx : World, Calls Tryz.prog 161 #[.string (S en.key)] wx fun e w' => e = .returned (.bool true) ∧ w' = wx) := fun wx => by have := key_any (S en.key) wx; rw [hkb] at this; exact this
    by_cases hv : 30 < en.val.length
    · have HE : Hid (d.add en = (1, d)) := radd_bad (.inr (.inr hv))
      have hvI : (30 : Int) < (en.val.length : Int) := by omega
      clear hR h hkb
      go_enter Tryz.func119, Tryz.ntmps119
      go_wp2_with (first | (go_at_call 161; refine (HK.out _).mono ?_; rintro e w1 ⟨rfl, rfl⟩))
      go_ret
      exact ⟨by rw [HE.out]; rfl, by rw [HE.out]; exact HS0.out⟩
    · have hgood : ¬ (en.key.length < 1 ∨ 20 < en.key.length ∨ 30 < en.val.length) := by
        unfold keyB at hkb
        simp at hkb
        omega
      have hvI : ¬ (30 : Int) < (en.val.length : Int) := by omega
      cases hd : d.down with
      | true =>
        have HE : Hid (d.add en = (7, d)) := radd_down hgood hd
        rw [hd] at c1
        clear hR h hkb hgood
        go_enter Tryz.func119, Tryz.ntmps119
        go_wp2_with (first | (go_at_call 161; refine (HK.out _).mono ?_; rintro e w1 ⟨rfl, rfl⟩))
        go_ret
        exact ⟨by rw [HE.out]; rfl, by rw [HE.out]; exact HS0.out⟩
      | false =>
        have ho : d.opn = none := by
          rcases h with h | h | h
          · exact absurd h hgood
          · rw [hd] at h; cases h
          · exact h
        have HE : Hid (d.add en = (2, d)) := radd_none hgood hd ho
        rw [hd] at c1
        rw [ho] at c13
        have c13' : w.cell? ⟨b, 13, none⟩ = some (.bool false) := c13
        clear hR h hkb hgood c13
        go_enter Tryz.func119, Tryz.ntmps119
        go_wp2_with (first | (go_at_call 161; refine (HK.out _).mono ?_; rintro e w1 ⟨rfl, rfl⟩))
        go_ret
        exact ⟨by rw [HE.out]; rfl, by rw [HE.out]; exact HS0.out⟩
  · have hkf : keyB (S en.key) = false := by simpa using hkb
    have HK : Hid (∀ wx : World, Calls Tryz.prog 161 #[.string (S en.key)] wx fun e w' => e = .returned (.bool false) ∧ w' = wx) := fun wx => by have := key_any (S en.key) wx; rw [hkf] at this; exact this
    have HE : Hid (d.add en = (1, d)) := radd_bad (by unfold keyB at hkb; simp at hkb; omega)
    clear hR h hkb hkf
    go_enter Tryz.func119, Tryz.ntmps119
    go_wp2_with (first | (go_at_call 161; refine (HK.out _).mono ?_; rintro e w1 ⟨rfl, rfl⟩))
    go_ret
    exact ⟨by rw [HE.out]; rfl, by rw [HE.out]; exact HS0.out⟩
end Go.Proofs.YtdhgebdbiehchaaGreatDoor
