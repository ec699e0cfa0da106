/- The contract of Store.Flush. The contract of Store.open. What holds of every disk holds behind every call that writes. Nothing of the program is named here. The document's store in memory: one block of eighteen cells, and the row of what waits. The contract of Store.add. The contract of Store.add, where it is let wait. The contracts of Store.Put, Delete, File. The contracts of disk.New and ledge.Disk. The contract of Store.Create, where no log is made. Store.Create's three steps, made and handed to open. The contract of Store.Create. The contract of Store.Create, whole. -/
import Derived.Test.YtdhgebdbiehchaaGreatDoorB36
namespace Go.Proofs.YtdhgebdbiehchaaGreatDoor
open Go.RowKit Go.Maps
set_option linter.unusedSimpArgs false
set_option linter.unusedVariables false

theorem flush_down {d : Dk} (h : d.down = true) : d.flush = (7, d) := by unfold Dk.flush; rw [if_pos h]
theorem flush_none {d : Dk} (h : d.down = false) (ho : d.opn = none) : d.flush = (2, d) := by unfold Dk.flush; rw [if_neg (by simp [h]), ho]
theorem flush_sync {d : Dk} {blk : Nat} (h : d.down = false) (ho : d.opn = some blk) (hw : d.waits.isEmpty = true) : d.flush = d.steps [stSync 0] := by unfold Dk.flush; rw [if_neg (by simp [h]), ho]; simp only; rw [if_pos hw]
theorem flush_write {d : Dk} {blk : Nat} (h : d.down = false) (ho : d.opn = some blk) (hw : d.waits.isEmpty = false) : d.flush = if d.write.1 = 0 then d.write.2.steps [stSync 0] else d.write := by
  unfold Dk.flush
  rw [if_neg (by simp [h]), ho]
  simp only
  rw [if_neg (by simp [hw])]
theorem write_codes (d : Dk) : d.write.1 = 0 ∨ d.write.1 = 2 ∨ d.write.1 = 6 ∨ d.write.1 = 8 := by
  rw [write_eq]
  split
  · exact .inl rfl
  · exact steps_codes d _
theorem write_fine {d : Dk} (h : DkOk d) (hup : d.down = false) : (d.write.1 = 0 → DkOk d.write.2 ∧ d.write.2.down = false ∧ d.write.2.opn = d.opn ∧ d.write.2.waits = []) := by
  rw [write_eq]
  have hok2 := h.steps [stAppend 0 (blockB d.waits)] (by intro s hs; simp at hs; subst hs; exact ⟨by simp [stAppend], by simp [stAppend], by simp [stAppend]⟩)
  have hsame := steps_same (d := d) [stAppend 0 (blockB d.waits)]
  generalize d.steps [stAppend 0 (blockB d.waits)] = r at *
  obtain ⟨re, rd⟩ := r
  simp only at *
  split
  · rename_i h0
    intro _
    subst h0
    obtain ⟨a1, a2, a3⟩ := hsame.1 (by decide)
    refine ⟨⟨hok2.room, hok2.used, hok2.sync, hok2.opn, fun _ => rfl, by intro e he; simp at he, by simp, by intro b _ h1; simp at h1⟩, a1.trans hup, a2, rfl⟩
  · rename_i h0
    intro h1
    exact absurd h1 h0
theorem codes_answer {e : Int} (h : e = 0 ∨ e = 2 ∨ e = 6 ∨ e = 8) : e = 0 ∨ e = 6 ∨ e = 7 ∨ e = 8 ∨ e = 1 ∨ e = 2 := by omega
theorem done_env {E : Sent} {n : Nat} {G : Nat → Prop} {bs : Nat} {w w' : World} {d : Dk} (hE : Env0 n w E) (hG : ∀ k, G k → n ≤ k ∧ k < w.heap.size) (h : Done E G bs w d w') : Env0 n w' E := hE.chg h.2 (fun k hk => (hG k hk).1)
theorem done_below {E : Sent} {G : Nat → Prop} {bs : Nat} {w w1 w2 : World} {d : Dk} (h : Done E G bs w d w1) (hb : Below w1.heap.size w1 w2) : Done E G bs w d w2 := by
  obtain ⟨⟨q, h1⟩, h2⟩ := h
  refine ⟨⟨q, (h1.below hb).mono ?_⟩, h2.trans0 hb⟩
  rintro k (hk | hk)
  · exact .inl hk
  · exact .inr ⟨hk.1, Nat.lt_of_lt_of_le hk.2 hb.size⟩
theorem stSync_fine : StFine (stSync 0) := ⟨by simp [stSync], by simp [stSync], by simp [stSync]⟩
set_option maxRecDepth 100000 in
set_option maxHeartbeats 1600000 in
theorem flush_any (E : Sent) (n : Nat) (G : Nat → Prop) (bs : Nat) (d : Dk) (q : StP) (w : World) (hE : Env0 n w E) (hG : ∀ k, G k → n ≤ k ∧ k < w.heap.size) (hS : StoreAt w G bs d q) (hok : DkOk d) :
    Calls Tryz.prog 17 #[.pointer (some ⟨bs, 0, none⟩)] w fun e w' => e = .returned (.int .i64 d.flush.1) ∧ Done E G bs w d.flush.2 w' := by
  have HRF := refusal_any E n G bs d q w hE hS
  have HS0 : Hid (∀ w1 : World, Below w.heap.size w w1 → Done E G bs w d w1) := fun w1 hb => ⟨⟨q, (hS.below hb).mono (fun k h => .inl h)⟩, Chg.of_below hb⟩
  cases hd : d.down with
  | true =>
    have hr : refE d = 7 := by unfold refE; rw [if_pos hd]
    rw [hr] at HRF
    have HF1 : Hid (d.flush.1 = 7) := by show _ = _; rw [flush_down hd]
    have HF2 : Hid (d.flush.2 = d) := by show _ = _; rw [flush_down hd]
    clear hE hG hS hok hr
    go_enter Tryz.func17, Tryz.ntmps17
    go_wp2_with (first | (go_at_call 38; refine HRF.mono ?_; rintro e w1 ⟨rfl, hb⟩; have HB : Hid (Below w.heap.size w w1) := hb; clear hb))
    go_ret
    exact ⟨by rw [HF1.out]; rfl, by rw [HF2.out]; exact HS0.out _ HB.out⟩
  | false =>
    cases ho : d.opn with
    | none =>
      have hr : refE d = 2 := by unfold refE; rw [if_neg (by simp [hd]), ho]; rfl
      rw [hr] at HRF
      have HF1 : Hid (d.flush.1 = 2) := by show _ = _; rw [flush_none hd ho]
      have HF2 : Hid (d.flush.2 = d) := by show _ = _; rw [flush_none hd ho]
      clear hE hG hS hok hr
      go_enter Tryz.func17, Tryz.ntmps17
      go_wp2_with (first | (go_at_call 38; refine HRF.mono ?_; rintro e w1 ⟨rfl, hb⟩; have HB : Hid (Below w.heap.size w w1) := hb; clear hb))
      go_ret
      exact ⟨by rw [HF1.out]; rfl, by rw [HF2.out]; exact HS0.out _ HB.out⟩
    | some blk =>
      have hr : refE d = 0 := by unfold refE; rw [if_neg (by simp [hd]), ho]; rfl
      rw [hr] at HRF
      have hw := hS.wait
      rw [ho] at hw
      obtain ⟨bw, hbw, hwa⟩ := wait_some hw
      have HC1 : Hid (∀ w1 : World, Below w.heap.size w w1 → w1.cell? ⟨bs, 1, none⟩ = some (.pointer (some ⟨bw, 0, none⟩))) := fun w1 hb => by
        have : w1.cell? ⟨bs, 1, none⟩ = some (optP q.ow) := (hS.box.below hb hS.box.lt).cell (j := 1) rfl
        rw [hbw] at this
        exact this
      have HAN : Hid (∀ w1 : World, Below w.heap.size w w1 → _) := fun w1 hb => waitAny_any bw blk d.waits q.v w1 (hwa.below hb)
      cases hwe : d.waits.isEmpty with
      | true =>
        rw [hwe] at HAN
        have HSC : Hid (∀ (w1 w2 : World) (e : Ending), Below w.heap.size w w1 → Made w1 (stSync 0) none e w2 → _) := fun w1 w2 e hb hM => steps_call hE hG hS hok hd (st := stSync 0) stSync_fine hb hM (fun g' hg' => by cases hg')
        have HEV : Hid (∀ (w1 : World) (d' : Dk), Done E G bs w d' w1 → Env w1 E) := fun w1 d' h => (done_env hE hG h).env
        have HFL : Hid (d.flush = d.steps [stSync 0]) := flush_sync hd ho hwe
        have HCO := codes_answer (steps_codes d [stSync 0])
        generalize d.steps [stSync 0] = r at *
        clear hE hG hS hok hr hw hwa hbw
        go_enter Tryz.func17, Tryz.ntmps17
        go_wp2_with (first | (go_at_call 38; refine HRF.mono ?_; rintro e w1 ⟨rfl, hb⟩; have k1 := HC1.out w1 hb; have HB : Hid (Below w.heap.size w w1) := hb; clear hb) | (go_at_call 39; refine (HAN.out w1 HB.out).mono ?_; rintro e w1 ⟨rfl, rfl⟩) | (go_at_call 43; refine (sync_log w1).mono ?_; intro e w2 hM; obtain ⟨s1, s2, k, caps, rfl, hcall⟩ := HSC.out w1 w2 e HB.out hM; clear hM) | (go_at_call 42; refine hcall.mono ?_; rintro e w4 ⟨v, rfl, hf, hdn⟩; have HFA : Hid (FaultIs w4 E r.1 v) := hf; have HDN : Hid (Done E G bs w r.2 w4) := hdn; clear hf hdn hcall) | (go_at_call 41; refine (answer_any E r.1 v w4 (HEV.out w4 _ HDN.out) HFA.out HCO).mono ?_; rintro e w5 ⟨rfl, hb5⟩))
        go_ret
        exact ⟨by rw [HFL.out]; rfl, by rw [HFL.out]; exact done_below HDN.out hb5⟩
      | false =>
        rw [hwe] at HAN
        have hne : d.waits ≠ [] := by intro e; rw [e] at hwe; cases hwe
        have HGL : Hid (∀ (w1 w4 : World) (d' : Dk), Done E G bs w d' w4 → ∀ k, Fx G w w4 k → n ≤ k ∧ k < w4.heap.size) := fun w1 w4 d' h k hk => by
          have := hE.le
          have h2 := h.2.size
          rcases hk with hk | hk
          · have := hG k hk; omega
          · omega
        have HEV : Hid (∀ (w1 : World) (d' : Dk), Done E G bs w d' w1 → Env0 n w1 E) := fun w1 d' h => done_env hE hG h
        have HWR : Hid (∀ w1 : World, Below w.heap.size w w1 → Calls Tryz.prog 40 #[.pointer (some ⟨bs, 0, none⟩)] w1 fun e w' => ∃ v, e = .returned v ∧ FaultIs w' E d.write.1 v ∧ Done E G bs w d.write.2 w') := fun w1 hb =>
          (write_any E n G bs blk d q w1 (hE.chg (F := fun _ => False) (Chg.of_below hb) (fun _ h => h.elim)) (fun k hk => ⟨(hG k hk).1, Nat.lt_of_lt_of_le (hG k hk).2 hb.size⟩) (hS.below hb) hok hd ho hne).mono fun e w' ⟨v, h1, h2, h3⟩ => ⟨v, h1, h2, h3.later hb⟩
        have HFL := flush_write hd ho hwe
        have hfine := write_fine hok hd
        have HCW := codes_answer (write_codes d)
        generalize d.write = r at *
        obtain ⟨re, rd⟩ := r
        simp only at HFL hfine HCW
        by_cases h0 : re = 0
        · subst h0
          rw [if_pos rfl] at HFL
          obtain ⟨f1, f2, f3, f4⟩ := hfine rfl
          have HSC : Hid (∀ (w4 w5 : World) (e : Ending), Done E G bs w rd w4 → Made w4 (stSync 0) none e w5 → ∃ s1 s2 k caps, e = .returned (.agg #[.string s1, .string s2, .func (.func k) #[] caps]) ∧ Calls Tryz.prog 42 #[.pointer (some ⟨bs, 0, none⟩), .slice (some ⟨w5.heap.size, 0, none⟩) 1 1] (w5.alloc (.cells #[.string s1, .string s2, .func (.func k) #[] caps] 86)) fun e w' => ∃ v, e = .returned v ∧ FaultIs w' E (rd.steps [stSync 0]).1 v ∧ Done E G bs w (rd.steps [stSync 0]).2 w') := fun w4 w5 e h hM => by
            obtain ⟨⟨q4, h1⟩, h2⟩ := h
            obtain ⟨s1, s2, k, caps, e1, hc⟩ := steps_call (HEV.out w4 rd ⟨⟨q4, h1⟩, h2⟩) (HGL.out w w4 rd ⟨⟨q4, h1⟩, h2⟩) h1 f1 f2 (st := stSync 0) stSync_fine (Below.refl _ _) hM (fun g' hg' => by cases hg')
            exact ⟨s1, s2, k, caps, e1, hc.mono fun e w' ⟨v, a1, a2, a3⟩ => ⟨v, a1, a2, Done.then ⟨⟨q4, h1⟩, h2⟩ a3⟩⟩
          have HF0 : Hid (d.flush = rd.steps [stSync 0]) := HFL
          have HCO := codes_answer (steps_codes rd [stSync 0])
          generalize rd.steps [stSync 0] = r at *
          clear hE hG hS hok hr hw hwa hbw HFL hfine f1 f2 f3 f4 HCW hne
          go_enter Tryz.func17, Tryz.ntmps17
          go_wp2_with (first | (go_at_call 38; refine HRF.mono ?_; rintro e w1 ⟨rfl, hb⟩; have k1 := HC1.out w1 hb; have HB : Hid (Below w.heap.size w w1) := hb; clear hb) | (go_at_call 39; refine (HAN.out w1 HB.out).mono ?_; rintro e w1 ⟨rfl, rfl⟩) | (go_at_call 40; refine (HWR.out w1 HB.out).mono ?_; rintro e w4 ⟨v, rfl, hf, hdn⟩; obtain rfl := fault_nil hf; have HD4 : Hid (Done E G bs w rd w4) := hdn; clear hf hdn) | (go_at_call 43; refine (sync_log w4).mono ?_; intro e w5 hM; obtain ⟨s1, s2, k, caps, rfl, hcall⟩ := HSC.out w4 w5 e HD4.out hM; clear hM) | (go_at_call 42; refine hcall.mono ?_; rintro e w6 ⟨v, rfl, hf, hdn⟩; have HFA : Hid (FaultIs w6 E r.1 v) := hf; have HDN : Hid (Done E G bs w r.2 w6) := hdn; clear hf hdn hcall) | (go_at_call 41; refine (answer_any E r.1 v w6 (HEV.out w6 _ HDN.out).env HFA.out HCO).mono ?_; rintro e w7 ⟨rfl, hb7⟩))
          go_ret
          exact ⟨by rw [HF0.out]; rfl, by rw [HF0.out]; exact done_below HDN.out hb7⟩
        · rw [if_neg h0] at HFL
          have HF0 : Hid (d.flush = (re, rd)) := HFL
          clear hE hG hS hok hr hw hwa hbw HFL hfine hne
          go_enter Tryz.func17, Tryz.ntmps17
          go_wp2_with (first | (go_at_call 38; refine HRF.mono ?_; rintro e w1 ⟨rfl, hb⟩; have k1 := HC1.out w1 hb; have HB : Hid (Below w.heap.size w w1) := hb; clear hb) | (go_at_call 39; refine (HAN.out w1 HB.out).mono ?_; rintro e w1 ⟨rfl, rfl⟩) | (go_at_call 40; refine (HWR.out w1 HB.out).mono ?_; rintro e w4 ⟨v, rfl, hf, hdn⟩; obtain ⟨b, rfl⟩ := fault_some hf h0; have HFA : Hid (FaultIs w4 E re (.iface 128 (.pointer (some ⟨b, 0, none⟩)))) := hf; have HDN : Hid (Done E G bs w rd w4) := hdn; clear hf hdn) | (go_at_call 41; refine (answer_any E re _ w4 (HEV.out w4 _ HDN.out).env HFA.out HCW).mono ?_; rintro e w7 ⟨rfl, hb7⟩))
          go_ret
          exact ⟨by rw [HF0.out]; rfl, by rw [HF0.out]; exact done_below HDN.out hb7⟩
end Go.Proofs.YtdhgebdbiehchaaGreatDoor
namespace Go.Proofs.YtdhgebdbiehchaaGreatDoor
open Go.RowKit Go.Maps
set_option linter.unusedSimpArgs false
set_option linter.unusedVariables false

theorem opening_eq (d : Dk) (blk : Nat) (ss : List St) : d.opening blk ss = if (d.steps ss).1 = 0 then (0, (d.steps ss).2.opens blk) else d.steps ss := by
  unfold Dk.opening
  generalize d.steps ss = r
  obtain ⟨e, d'⟩ := r
  rfl
theorem StoreAt.opened {W W' : World} {G : Nat → Prop} {bs : Nat} {d : Dk} {q : StP} {blk bw : Nat} (h : StoreAt W G bs d q) (hGz : ∀ k, G k → k < W.heap.size) (hb : Below W.heap.size W W') (hw : WaitAt W' bw blk [] (.slice none 0 0)) (hbw : W.heap.size ≤ bw) :
    StoreAt (W'.setCell ⟨bs, 1, none⟩ (.pointer (some ⟨bw, 0, none⟩))) (Fx G W W') bs (d.opens blk) ⟨q.bd, q.Fd, q.p, some bw, .slice none 0 0⟩ := by
  have hlt := h.box.lt
  have hs := h.below hb
  refine ⟨hs.box.setj 1 _, ?_, ?_, h.fs, ?_, fun g e => (by cases e), .inl h.gs, fun k hk => .inl (h.gd k hk), ?_, fun g e => (by cases e)⟩
  · exact (hs.disk.keep (G := fun k => k = bs) (chg_one (grown_setB _ _ _ _) rfl) (fun k hk e => h.fs (by rw [← e]; exact hk))).setW (some blk) []
  · show WaitAt _ bw blk [] _
    exact hw.chg (F := fun k => k = bs) (chg_one (grown_setB _ _ _ _) rfl) (by omega) (fun g e => (by cases e))
  · intro b e hf
    cases e
    have := hGz _ (h.gd _ hf)
    omega
  · intro b e
    cases e
    exact .inr ⟨hbw, hw.box.lt⟩
set_option maxRecDepth 100000 in
set_option maxHeartbeats 1600000 in
theorem sopen_any (E : Sent) (n : Nat) (G : Nat → Prop) (bs : Nat) (d : Dk) (q : StP) (blk seed bits : Nat) (g cap : Nat) (cs : Array Value) (ss : List St) (w : World) (hE : Env0 n w E) (hG : ∀ k, G k → n ≤ k ∧ k < w.heap.size) (hS : StoreAt w G bs d q) (hok : DkOk d) (hup : d.down = false) (hT : StepsAt w q.Fd g cs ss) (hcap : ss.length ≤ cap) (hl : ss.length ≤ 1000) :
    Calls Tryz.prog 70 #[.pointer (some ⟨bs, 0, none⟩), .agg #[.int .i64 (blk : Int), .int .i64 (seed : Int), .int .i64 (bits : Int)], .slice (some ⟨g, 0, none⟩) ss.length cap] w fun e w' => e = .returned (.int .i64 (d.opening blk ss).1) ∧ Done E G bs w (d.opening blk ss).2 w' := by
  obtain ⟨W, hW⟩ : ∃ W : World, W = w.alloc (.cells #[.int .i64 (blk : Int), .int .i64 (seed : Int), .int .i64 (bits : Int)] 29) := ⟨_, rfl⟩
  have hB0 : Below w.heap.size w W := by rw [hW]; exact (Below.refl _ _).alloc (Nat.le_refl _) _
  have hx : Bx W w.heap.size #[.int .i64 (blk : Int), .int .i64 (seed : Int), .int .i64 (bits : Int)] 29 := by rw [hW]; exact bx_new w _ _ rfl
  have hnG : ¬ G w.heap.size := fun h => by have := (hG _ h).2; omega
  have hS1 := hS.below hB0
  have HDO := storeDo_any E n G bs d q g cap cs ss W (hE.chg (F := fun _ => False) (Chg.of_below hB0) (fun _ h => h.elim)) (fun k hk => ⟨(hG k hk).1, Nat.lt_of_lt_of_le (hG k hk).2 hB0.size⟩) hS1 hok hup (hT.turn (F' := q.Fd) (Chg.of_below (F := fun _ => False) hB0) (fun _ h => h.elim) (fun _ _ h => h)) hcap hl
  have HOE := opening_eq d blk ss
  have HCO := codes_answer (steps_codes d ss)
  have HEV : Hid (∀ (w1 : World) (d' : Dk), Done E G bs w d' w1 → Env w1 E) := fun w1 d' h => (done_env hE hG h).env
  have HLT : Hid (∀ (w1 : World) (d' : Dk), Done E G bs W d' w1 → Done E G bs w d' w1) := fun w1 d' h => h.later hB0
  have HCX : Hid (∀ (w1 : World) (d' : Dk), Done E G bs W d' w1 → (w1.cell? ⟨w.heap.size, 0, none⟩ = some (.int .i64 (blk : Int)) ∧ w1.cell? ⟨w.heap.size, 1, none⟩ = some (.int .i64 (seed : Int)) ∧ w1.cell? ⟨w.heap.size, 2, none⟩ = some (.int .i64 (bits : Int)))) := fun w1 d' h => by
    have := hx.chg h.2 hnG
    exact ⟨this.cell (j := 0) rfl, this.cell (j := 1) rfl, this.cell (j := 2) rfl⟩
  have HGZ : Hid (∀ k, G k → k < w.heap.size) := fun k hk => (hG k hk).2
  generalize d.steps ss = r at *
  obtain ⟨re, rd⟩ := r
  simp only at HOE HCO
  by_cases h0 : re = 0
  · subst h0
    rw [if_pos rfl] at HOE
    have HO : Hid (d.opening blk ss = (0, rd.opens blk)) := HOE
    have HOP : Hid (∀ w1 w2 : World, Done E G bs w rd w1 → Below w1.heap.size w1 w2 → WaitAt w2 (w1.heap.size + 1) blk [] (.slice none 0 0) → (∃ c, w2.cell? ⟨bs, 1, none⟩ = some c) ∧ w2.frozen? ⟨bs, 1, none⟩ = false ∧ Done E G bs w (rd.opens blk) (w2.setCell ⟨bs, 1, none⟩ (.pointer (some ⟨w1.heap.size + 1, 0, none⟩)))) := fun w1 w2 h hb hw => by
      obtain ⟨⟨q1, h1⟩, h2⟩ := h
      have hb2 := (h1.below hb).box
      have hz := hb.size
      have hGz : ∀ k, Fx G w w1 k → k < w1.heap.size := fun k hk => by
        rcases hk with hk | hk
        · have := HGZ.out k hk; have := h2.size; omega
        · exact hk.2
      refine ⟨⟨_, hb2.cell (j := 1) rfl⟩, hb2.frozen 1, ⟨_, (h1.opened hGz hb hw (by omega)).mono ?_⟩, (h2.trans0 hb).set bs 1 _ ?_⟩
      · intro k hk
        refine fx_setCell k ?_
        exact fx_trans h2.size hb.size k hk
      · rcases h1.gs with h | h
        · exact .inl h
        · exact .inr h.1
    subst hW
    clear hE hG hS hS1 hok hT hB0 hx hnG HOE HCO
    go_enter Tryz.func70, Tryz.ntmps70
    go_wp2_with (first | (go_at_call 42; refine HDO.mono ?_; rintro e w1 ⟨v, rfl, hf, hdn⟩; obtain rfl := fault_nil hf; obtain ⟨x0, x1, x2⟩ := HCX.out w1 _ hdn; have HDN : Hid (Done E G bs w rd w1) := HLT.out w1 _ hdn; clear hf hdn) | (go_at_call 128; refine (newWaiting_any blk seed bits w1).mono ?_; rintro e w2 ⟨rfl, hw2, hb2⟩; obtain ⟨⟨cc, hcc⟩, hfz, hdn2⟩ := HOP.out w1 w2 HDN.out hb2 hw2; have HD2 : Hid _ := hdn2; clear hdn2 hw2 hb2))
    go_ret
    exact ⟨by rw [HO.out]; rfl, by rw [HO.out]; exact HD2.out⟩
  · rw [if_neg h0] at HOE
    have HO : Hid (d.opening blk ss = (re, rd)) := HOE
    subst hW
    clear hE hG hS hS1 hok hT hB0 hx hnG HOE
    go_enter Tryz.func70, Tryz.ntmps70
    go_wp2_with (first | (go_at_call 42; refine HDO.mono ?_; rintro e w1 ⟨v, rfl, hf, hdn⟩; obtain ⟨b, rfl⟩ := fault_some hf h0; have HFA : Hid (FaultIs w1 E re (.iface 128 (.pointer (some ⟨b, 0, none⟩)))) := hf; have HDN : Hid (Done E G bs w rd w1) := HLT.out w1 _ hdn; clear hf hdn) | (go_at_call 41; refine (answer_any E re _ w1 (HEV.out w1 _ HDN.out) HFA.out HCO).mono ?_; rintro e w7 ⟨rfl, hb7⟩))
    go_ret
    exact ⟨by rw [HO.out]; rfl, by rw [HO.out]; exact done_below HDN.out hb7⟩
end Go.Proofs.YtdhgebdbiehchaaGreatDoor
namespace Go.Proofs.YtdhgebdbiehchaaGreatDoor
open Go.RowKit
set_option linter.unusedSimpArgs false
set_option linter.unusedVariables false

theorem DkOk.opens {d : Dk} (h : DkOk d) {blk : Nat} (hf : d.f0.isSome = true) (hd : d.down = false) (h1 : 1 ≤ blk) (h2 : blk ≤ 400) : DkOk (d.opens blk) :=
  ⟨h.room, h.used, h.sync, fun b e => by cases e; exact ⟨hf, h1, h2, hd⟩, fun e => (by cases e), fun e he => (by cases he), by simp [Dk.opens], fun b e hl => by simp [Dk.opens] at hl⟩
theorem put_f0 {d : Dk} {i : Nat} {f : Option Fl} (h : d.f0.isSome = true) (hf : i = 0 → f.isSome = true) : (d.put i f).f0.isSome = true := by
  rcases dk_cases d i f with ⟨h1, e⟩ | ⟨h1, e⟩ | ⟨h1, e⟩ | ⟨h1, e⟩
  · rw [e]; exact hf h1
  · rw [e]; exact h
  · rw [e]; exact h
  · rw [e]; exact h
theorem take_f0 {d : Dk} {s : St} (h : d.f0.isSome = true) (hs : StFine s) : (d.take s).2.f0.isSome = true := by
  unfold Dk.take
  split
  · exact put_f0 h (fun _ => rfl)
  · split
    · exact h
    · split
      · split
        · exact h
        · exact put_f0 h (fun _ => rfl)
      · split
        · exact put_f0 h (fun _ => rfl)
        · split
          · exact put_f0 h (fun _ => rfl)
          · split
            · rename_i ht
              exact put_f0 (put_f0 h (fun e => absurd e (hs.1 ht))) (fun _ => rfl)
            · exact put_f0 h (fun e => absurd e (hs.2.1 (by have := hs.2.2; omega)))
theorem count_f0 {d : Dk} (h : d.f0.isSome = true) : d.count.2.f0.isSome = true := by
  unfold Dk.count
  split
  · exact h
  · simp [Dk.falls, h]
  · exact h
theorem one_f0 {d : Dk} {s : St} (h : d.f0.isSome = true) (hs : StFine s) : (d.one s).2.f0.isSome = true := by
  have hc := count_f0 h
  obtain ⟨b, d', hct⟩ : ∃ b d', d.count = (b, d') := ⟨_, _, rfl⟩
  rw [hct] at hc
  cases b with
  | false => rw [one_no hct]; exact hc
  | true => rw [one_yes hct]; exact take_f0 hc hs
theorem steps_f0 {d : Dk} (h : d.f0.isSome = true) (ss : List St) (hs : ∀ s ∈ ss, StFine s) : (d.steps ss).2.f0.isSome = true := by
  induction ss generalizing d with
  | nil => exact h
  | cons s ss ih =>
    rw [steps_cons]
    split
    · exact ih (one_f0 h (hs s (by simp))) (fun x hx => hs x (by simp [hx]))
    · exact one_f0 h (hs s (by simp))
theorem make_f0 {d : Dk} (ss : List St) (hs : ∀ s ∈ ss, StFine s) (h0 : (d.steps (stMake 0 :: ss)).1 = 0) : (d.steps (stMake 0 :: ss)).2.f0.isSome = true := by
  rw [steps_cons] at h0 ⊢
  split
  · rename_i h1
    refine steps_f0 ?_ ss hs
    obtain ⟨b, d', hct⟩ : ∃ b d', d.count = (b, d') := ⟨_, _, rfl⟩
    cases b with
    | false => rw [one_no hct] at h1; cases h1
    | true => rw [one_yes hct]; rfl
  · rename_i h1
    rw [if_neg h1] at h0
    exact absurd h0 h1
theorem DkOk.opening {d : Dk} (h : DkOk d) {blk : Nat} {ss : List St} (hs : ∀ s ∈ ss, StFine s) (hd : d.down = false) (h1 : 1 ≤ blk) (h2 : blk ≤ 400) (hf : (d.steps ss).1 = 0 → (d.steps ss).2.f0.isSome = true) : DkOk (d.opening blk ss).2 := by
  have hk := h.steps ss hs
  have hsame := steps_same (d := d) ss
  rw [opening_eq]
  split
  · rename_i h0
    exact hk.opens (hf h0) ((hsame.1 (by rw [h0]; decide)).1.trans hd) h1 h2
  · exact hk
theorem wellB_blk {a b c : Int} (h : wellB a b c = true) : 1 ≤ a ∧ a ≤ 400 := by
  unfold wellB at h
  simp at h
  omega
theorem fine_make (i : Nat) : StFine (stMake i) := ⟨by simp [stMake], by simp [stMake], by simp [stMake]⟩
theorem fine_append (i : Nat) (t : List UInt8) : StFine (stAppend i t) := ⟨by simp [stAppend], by simp [stAppend], by simp [stAppend]⟩
theorem fine_sync (i : Nat) : StFine (stSync i) := ⟨by simp [stSync], by simp [stSync], by simp [stSync]⟩
theorem DkOk.create {d : Dk} (h : DkOk d) (blk seed bits : Int) : DkOk (d.create blk seed bits).2 := by
  unfold Dk.create
  split
  · exact h
  · rename_i hw
    split
    · exact h
    · rename_i hd
      split
      · exact h
      · have hb := wellB_blk (a := blk) (b := seed) (c := bits) (by simpa using hw)
        have fine : ∀ s ∈ [stAppend 0 (headL blk.toNat seed.toNat bits.toNat), stSync 0], StFine s := by
          intro s hs
          simp at hs
          rcases hs with rfl | rfl
          · exact fine_append _ _
          · exact fine_sync _
        refine h.opening ?_ (by simpa using hd) (by omega) (by omega) (make_f0 _ fine)
        intro s hs
        rw [List.mem_cons] at hs
        rcases hs with rfl | hs
        · exact fine_make _
        · exact fine s hs
theorem DkOk.write {d : Dk} (h : DkOk d) : DkOk d.write.2 := by
  have hok2 := h.steps [stAppend 0 (blockB d.waits)] (by intro s hs; simp at hs; subst hs; exact fine_append _ _)
  rw [write_eq]
  split
  · exact ⟨hok2.room, hok2.used, hok2.sync, hok2.opn, fun _ => rfl, by intro e he; simp at he, by simp, by intro b _ h1; simp at h1⟩
  · exact hok2
theorem DkOk.waited {d : Dk} (h : DkOk d) {e : Ent} (he : EntOk e) {blk : Nat} (ho : d.opn = some blk) (hfit : d.fits blk e = true) : DkOk { d with waits := d.waits ++ [e] } := by
  refine ⟨h.room, h.used, h.sync, h.opn, fun e1 => ?_, fun x hx => ?_, ?_, fun b hb hl => ?_⟩
  · have : d.opn = none := e1
    rw [ho] at this; cases this
  · simp at hx
    rcases hx with hx | rfl
    · exact h.ents x hx
    · exact he
  · have := h.most
    unfold Dk.fits at hfit
    simp at hfit ⊢
    rcases hfit with h0 | ⟨h1, _⟩
    · rw [h0]; simp
    · omega
  · have hb' : d.opn = some b := hb
    rw [ho] at hb'
    cases hb'
    unfold Dk.fits at hfit
    simp at hfit hl
    rcases hfit with h0 | ⟨h1, h2⟩
    · rw [h0] at hl; simp at hl
    · show (entsB (d.waits ++ [e])).length ≤ blk
      have : entsB (d.waits ++ [e]) = entsB d.waits ++ entB e := by simp [entsB]
      rw [this, List.length_append]
      exact h2
theorem DkOk.add {d : Dk} (h : DkOk d) {e : Ent} (he : e.put = false → e.val = []) : DkOk (d.add e).2 := by
  unfold Dk.add
  split
  · exact h
  · rename_i hz
    have hek : EntOk e := by
      simp only [not_or, Nat.not_lt] at hz
      exact ⟨hz.1, hz.2.1, hz.2.2, he⟩
    split
    · exact h
    · rename_i hd
      split
      · exact h
      · rename_i blk ho
        split
        · rename_i hfit
          exact h.waited hek ho hfit
        · have hw := h.write
          have hf := write_fine h (by simpa using hd)
          generalize d.write = r at *
          obtain ⟨re, rd⟩ := r
          simp only at *
          split
          · rename_i h0
            obtain ⟨f1, f2, f3, f4⟩ := hf h0
            exact f1.waited hek (f3.trans ho) (by unfold Dk.fits; rw [f4]; rfl)
          · exact hw
theorem DkOk.flush {d : Dk} (h : DkOk d) : DkOk d.flush.2 := by
  have fs : ∀ s ∈ [stSync 0], StFine s := by intro s hs; simp at hs; subst hs; exact fine_sync _
  unfold Dk.flush
  split
  · exact h
  · split
    · exact h
    · split
      · exact h.steps _ fs
      · have hw := h.write
        generalize d.write = r at *
        obtain ⟨re, rd⟩ := r
        simp only at *
        split
        · exact hw.steps _ fs
        · exact hw
theorem DkOk.disk {room : Int} {d : Dk} (h : diskD room = some d) : DkOk d := by
  unfold diskD at h
  split at h
  · cases h
  · cases h
    refine ⟨by simp; omega, by simp [Dk.used, lenF], fun i f hf => ?_, fun b e => (by cases e), fun _ => rfl, fun e he => (by cases he), by simp, fun b e => (by cases e)⟩
    unfold Dk.file at hf
    simp at hf
end Go.Proofs.YtdhgebdbiehchaaGreatDoor
namespace Go.Proofs.YtdhgebdbiehchaaGreatDoor
open Go.RowKit Go.Maps
set_option linter.unusedSimpArgs false
set_option linter.unusedVariables false

def txtO (f : Option Fl) : List UInt8 := match f with
  | none => []
  | some f => f.text
def synO (f : Option Fl) : Nat := match f with
  | none => 0
  | some f => f.sync
def leftI (l : Option (Nat × Nat)) : Int := match l with
  | none => -1
  | some p => p.1
structure RfP where
  keep : Nat
  c0 : Int
  c1 : Int
  c2 : Int
  v : Value
def refC (d : Dk) (q : RfP) : Array Value := #[.int .i64 d.room, .bool d.down, .bool d.f0.isSome, .string (S (txtO d.f0)), .int .i64 (synO d.f0), .bool d.f1.isSome, .string (S (txtO d.f1)), .int .i64 (synO d.f1), .bool d.f2.isSome, .string (S (txtO d.f2)), .int .i64 (synO d.f2),
  .int .i64 (leftI d.left), .int .i64 q.keep, .bool d.opn.isSome, .int .i64 q.c0, .int .i64 q.c1, .int .i64 q.c2, q.v]
structure RefAt (W : World) (G : Nat → Prop) (b : Nat) (d : Dk) (q : RfP) : Prop where
  box : Bx W b (refC d q) 273
  row : W.ownsRow 0 114 3 q.v d.waits.length (cellsE d.waits)
  ne : q.v.ownBlock ≠ some b
  left : ∀ n k, d.left = some (n, k) → n ≤ 9223372036854775807 ∧ q.keep = k
  keep : q.keep ≤ 9223372036854775807
  blk : ∀ blk, d.opn = some blk → q.c0 = blk
  gb : G b
  gv : ∀ g, q.v.ownBlock = some g → G g
theorem RefAt.mono {W : World} {G G' : Nat → Prop} {b : Nat} {d : Dk} {q : RfP} (h : RefAt W G b d q) (hG : ∀ k, G k → G' k) : RefAt W G' b d q :=
  ⟨h.box, h.row, h.ne, h.left, h.keep, h.blk, hG _ h.gb, fun g e => hG _ (h.gv g e)⟩
theorem RefAt.kept {W W' : World} {G K : Nat → Prop} {b : Nat} {d : Dk} {q : RfP} (h : RefAt W G b d q) (hc : Chg K W W') (hK : ∀ k, G k → ¬ K k) : RefAt W' G b d q :=
  ⟨h.box.chg hc (hK _ h.gb), own_chg h.row hc (fun g e => hK _ (h.gv g e)), h.ne, h.left, h.keep, h.blk, h.gb, h.gv⟩
theorem RefAt.below {W W' : World} {G : Nat → Prop} {b : Nat} {d : Dk} {q : RfP} (h : RefAt W G b d q) (hb : Below W.heap.size W W') : RefAt W' G b d q :=
  ⟨h.box.below hb h.box.lt, own_chg h.row (Chg.of_below (F := fun _ => False) hb) (fun _ _ h => h), h.ne, h.left, h.keep, h.blk, h.gb, h.gv⟩
def RDone (G : Nat → Prop) (b : Nat) (w : World) (d' : Dk) (w' : World) : Prop := (∃ q', RefAt w' (Fx G w w') b d' q') ∧ Chg G w w'
theorem RDone.refl {G : Nat → Prop} {b : Nat} {w : World} {d : Dk} {q : RfP} (h : RefAt w G b d q) : RDone G b w d w := ⟨⟨q, h.mono (fun k hk => .inl hk)⟩, Chg.refl _ _⟩
theorem RDone.of_below {G : Nat → Prop} {b : Nat} {w w' : World} {d : Dk} {q : RfP} (h : RefAt w G b d q) (hb : Below w.heap.size w w') : RDone G b w d w' := ⟨⟨q, (h.below hb).mono (fun k hk => .inl hk)⟩, Chg.of_below hb⟩
theorem RDone.below {G : Nat → Prop} {b : Nat} {w w1 w2 : World} {d : Dk} (h : RDone G b w d w1) (hb : Below w1.heap.size w1 w2) : RDone G b w d w2 := by
  obtain ⟨⟨q, h1⟩, h2⟩ := h
  refine ⟨⟨q, (h1.below hb).mono ?_⟩, h2.trans0 hb⟩
  rintro k (hk | hk)
  · exact .inl hk
  · exact .inr ⟨hk.1, Nat.lt_of_lt_of_le hk.2 hb.size⟩
theorem RDone.later {G : Nat → Prop} {b : Nat} {w w1 w2 : World} {d : Dk} (hb : Below w.heap.size w w1) (h : RDone G b w1 d w2) : RDone G b w d w2 := by
  obtain ⟨⟨q, h1⟩, h2⟩ := h
  refine ⟨⟨q, h1.mono ?_⟩, (Chg.of_below hb).trans (h2.mono (fun k _ hk => .inl hk))⟩
  rintro k (hk | hk)
  · exact .inl hk
  · exact .inr ⟨Nat.le_trans hb.size hk.1, hk.2⟩
theorem RDone.then {G : Nat → Prop} {b : Nat} {w w1 w2 : World} {d d2 : Dk} (h : RDone G b w d w1) (k : RDone (Fx G w w1) b w1 d2 w2) : RDone G b w d2 w2 := by
  obtain ⟨_, h2⟩ := h
  obtain ⟨⟨q, k1⟩, k2⟩ := k
  exact ⟨⟨q, k1.mono (fx_trans h2.size k2.size)⟩, h2.trans k2⟩

theorem own_box {W : World} {b : Nat} {cs : Array Value} {t : TypeId} {base e size n : Nat} {v : Value} {xs : List Value} (h : W.ownsRow base e size v n xs) (hne : v.ownBlock ≠ some b) (j : Nat) (u : Value) : (W.setCell ⟨b, j, none⟩ u).ownsRow base e size v n xs :=
  own_chg h (chg_one (F := fun k => k = b) (grown_setB W b j u) rfl) (fun g e => fun h => hne (by rw [e, h]))

def fallN (k : Nat) (f : Option Fl) : Nat := synO f + min k ((txtO f).length - synO f)
theorem fall_txt (k : Nat) (f : Option Fl) : txtO (f.map (Fl.fall k)) = (txtO f).take (fallN k f) := by
  cases f with
  | none => simp [txtO]
  | some f => rfl
theorem fall_syn (k : Nat) (f : Option Fl) (h : ∀ g, f = some g → g.sync ≤ g.text.length) : synO (f.map (Fl.fall k)) = fallN k f := by
  cases f with
  | none => simp [fallN, synO, txtO]
  | some f => rfl
theorem fallN_le (k : Nat) (f : Option Fl) (h : ∀ g, f = some g → g.sync ≤ g.text.length) : fallN k f ≤ (txtO f).length := by
  cases f with
  | none => simp [fallN, synO, txtO]
  | some f => have := h f rfl; simp [fallN, synO, txtO]; omega
def fallK (d : Dk) (k i : Nat) : Dk := { d with down := true, f0 := if 0 < i then d.f0.map (Fl.fall k) else d.f0, f1 := if 1 < i then d.f1.map (Fl.fall k) else d.f1, f2 := if 2 < i then d.f2.map (Fl.fall k) else d.f2, left := none, opn := none, waits := [] }
theorem fall_box {W : World} {b : Nat} {d : Dk} {k i : Nat} {q : RfP} (h : Bx W b (refC (fallK d k i) q) 273) (hi : i < 3) (hs : ∀ i f, d.file i = some f → f.sync ≤ f.text.length) :
    Bx ((W.setCell ⟨b, 2 + 3 * i + 1, none⟩ (.string (S ((txtO (d.file i)).take (fallN k (d.file i)))))).setCell ⟨b, 2 + 3 * i + 2, none⟩ (.int .i64 (fallN k (d.file i) : Int))) b (refC (fallK d k (i + 1)) q) 273 := by
  have e1 := fall_txt k (d.file i)
  have e2 := fall_syn k (d.file i) (fun g hg => hs i g hg)
  rw [← e1, ← e2]
  have h2 := (h.setj (2 + 3 * i + 1) (.string (S (txtO ((d.file i).map (Fl.fall k)))))).setj (2 + 3 * i + 2) (.int .i64 (synO ((d.file i).map (Fl.fall k)) : Int))
  have e3 : ((refC (fallK d k i) q).setIfInBounds (2 + 3 * i + 1) (.string (S (txtO ((d.file i).map (Fl.fall k)))))).setIfInBounds (2 + 3 * i + 2) (.int .i64 (synO ((d.file i).map (Fl.fall k)) : Int)) = refC (fallK d k (i + 1)) q := by
    match i, hi with
    | 0, _ => simp [refC, fallK, Dk.file]
    | 1, _ => simp [refC, fallK, Dk.file]
    | 2, _ => simp [refC, fallK, Dk.file]
  rw [e3] at h2
  exact h2
end Go.Proofs.YtdhgebdbiehchaaGreatDoor
namespace Go.Proofs.YtdhgebdbiehchaaGreatDoor
open Go.RowKit Go.Maps
set_option linter.unusedSimpArgs false
set_option linter.unusedVariables false

theorem done_add {E : Sent} {G : Nat → Prop} {bs blk : Nat} {w w4 : World} {rd : Dk} {en : Ent} (hG : ∀ k, G k → k < w.heap.size) (h : Done E G bs w rd w4) (ho : rd.opn = some blk) (hok : DkOk rd) (hk : en.key.length ≤ 20) (hv : en.val.length ≤ 30) :
    ∃ bw4, w4.cell? ⟨bs, 1, none⟩ = some (.pointer (some ⟨bw4, 0, none⟩)) ∧ ∀ w5 : World, Below w4.heap.size w4 w5 → Calls Tryz.prog 101 #[.pointer (some ⟨bw4, 0, none⟩), entV en] w5 fun e w' => e = .returned (.tuple #[]) ∧ Done E G bs w { rd with waits := rd.waits ++ [en] } w' := by
  have hD := h
  obtain ⟨⟨q4, h1⟩, h2⟩ := h
  have hw := h1.wait
  rw [ho] at hw
  obtain ⟨bw4, hb, hwa⟩ := wait_some hw
  have c1 : w4.cell? ⟨bs, 1, none⟩ = some (optP q4.ow) := h1.box.cell (j := 1) rfl
  rw [hb] at c1
  refine ⟨bw4, c1, fun w5 hb5 => ?_⟩
  have hwl := hok_waits hok
  have hmo := hok.most
  refine (addW_any bw4 blk rd.waits en q4.v w5 (hwa.below hb5) hk hv (by omega) (by omega)).mono ?_
  rintro e w6 ⟨rfl, v', k1, k2, k3⟩
  have hz5 := hb5.size
  have hGz : ∀ k, Fx G w w4 k → k < w5.heap.size := fun k hk => by
    rcases hk with hk | hk
    · have := hG k hk; have := h2.size; omega
    · omega
  have hst := (h1.below hb5).waited hGz ho hb k3 k1 k2
  have h25 : Chg G w w5 := h2.trans0 hb5
  refine ⟨rfl, ⟨_, hst.mono ?_⟩, h25.trans (k3.mono ?_)⟩
  · rintro k ((hk | hk) | hk)
    · exact .inl hk
    · exact .inr (by have := k3.size; omega)
    · exact .inr (by have := h2.size; omega)
  · intro k hk e
    have hg4 : Fx G w w4 k := by
      rcases e with e | e
      · rw [e]; exact h1.gw _ hb
      · exact h1.gv _ e
    rcases hg4 with hg | hg
    · exact .inl hg
    · exact .inr (by omega)
theorem add_wrong {d : Dk} {en : Ent} (h : rightB en = false) : d.add en = (1, d) := by
  unfold Dk.add
  unfold rightB at h
  rw [Bool.not_eq_eq_eq_not, Bool.not_false] at h
  rw [if_pos (of_decide_eq_true h)]
theorem right_not {en : Ent} (h : rightB en = true) : ¬ (en.key.length < 1 ∨ 20 < en.key.length ∨ 30 < en.val.length) := by
  unfold rightB at h
  simpa using h
theorem add_down {d : Dk} {en : Ent} (h : rightB en = true) (hd : d.down = true) : d.add en = (7, d) := by
  unfold Dk.add
  rw [if_neg (right_not h), if_pos hd]
theorem add_none {d : Dk} {en : Ent} (h : rightB en = true) (hd : d.down = false) (ho : d.opn = none) : d.add en = (2, d) := by
  unfold Dk.add
  rw [if_neg (right_not h), if_neg (by simp [hd]), ho]
theorem add_fits {d : Dk} {en : Ent} {blk : Nat} (h : rightB en = true) (hd : d.down = false) (ho : d.opn = some blk) (hf : takesB blk d.waits en = true) : d.add en = (0, { d with waits := d.waits ++ [en] }) := by
  unfold Dk.add
  rw [if_neg (right_not h), if_neg (by simp [hd]), ho]
  simp only
  rw [if_pos (show d.fits blk en = true from hf)]
theorem add_write {d : Dk} {en : Ent} {blk : Nat} (h : rightB en = true) (hd : d.down = false) (ho : d.opn = some blk) (hf : takesB blk d.waits en = false) : d.add en = if d.write.1 = 0 then (0, { d.write.2 with waits := d.write.2.waits ++ [en] }) else d.write := by
  unfold Dk.add
  rw [if_neg (right_not h), if_neg (by simp [hd]), ho]
  simp only
  rw [if_neg (by rw [show d.fits blk en = false from hf]; simp)]
set_option maxRecDepth 100000 in
set_option maxHeartbeats 1600000 in
theorem add_refused (E : Sent) (n : Nat) (G : Nat → Prop) (bs : Nat) (d : Dk) (q : StP) (en : Ent) (w : World) (hE : Env0 n w E) (hS : StoreAt w G bs d q) (h : rightB en = false ∨ refE d ≠ 0) :
    Calls Tryz.prog 53 #[.pointer (some ⟨bs, 0, none⟩), entV en] w fun e w' => e = .returned (.int .i64 (d.add en).1) ∧ Done E G bs w (d.add en).2 w' := by
  have HS0 : Hid (∀ w1 : World, Below w.heap.size w w1 → Done E G bs w d w1) := fun w1 hb => ⟨⟨q, (hS.below hb).mono (fun k h => .inl h)⟩, Chg.of_below hb⟩
  have hB0 : Below w.heap.size w (w.alloc (.cells #[.bool en.put, .string (S en.key), .string (S en.val)] 106)) := (Below.refl _ _).alloc (Nat.le_refl _) _
  have HRI := entRight_any en (w.alloc (.cells #[.bool en.put, .string (S en.key), .string (S en.val)] 106))
  have HB0 : Hid (Below w.heap.size w (w.alloc (.cells #[.bool en.put, .string (S en.key), .string (S en.val)] 106))) := hB0
  have HRF : Hid (∀ w1 : World, Below w.heap.size w w1 → _) := fun w1 hb => refusal_any E n G bs d q w1 (hE.chg (F := fun _ => False) (Chg.of_below hb) (fun _ h => h.elim)) (hS.below hb)
  cases hr : rightB en with
  | false =>
    rw [hr] at HRI
    have HA : Hid (d.add en = (1, d)) := add_wrong hr
    unfold entV at HRI ⊢
    clear hE hS hB0
    go_enter Tryz.func53, Tryz.ntmps53
    go_wp2_with (first | (go_at_call 99; refine HRI.mono ?_; rintro e w1 ⟨rfl, hb⟩; have HB : Hid (Below w.heap.size w w1) := HB0.out.trans (hb.mono HB0.out.size); clear hb))
    go_ret
    exact ⟨by rw [HA.out]; rfl, by rw [HA.out]; exact HS0.out _ HB.out⟩
  | true =>
    rw [hr] at HRI h
    have h' : refE d ≠ 0 := by rcases h with h | h; cases h; exact h
    have HA : Hid (d.add en = (refE d, d)) := by
      show _ = _
      unfold refE at h' ⊢
      cases hd : d.down with
      | true => rw [add_down hr hd]; simp
      | false =>
        cases ho : d.opn with
        | none => rw [add_none hr hd ho]; simp
        | some b => rw [hd, ho] at h'; simp at h'
    unfold entV at HRI ⊢
    clear hE hS hB0 h
    generalize refE d = rf at *
    go_enter Tryz.func53, Tryz.ntmps53
    go_wp2_with (first | (go_at_call 99; refine HRI.mono ?_; rintro e w1 ⟨rfl, hb⟩; have HB : Hid (Below w.heap.size w w1) := HB0.out.trans (hb.mono HB0.out.size); clear hb) | (go_at_call 38; refine (HRF.out w1 HB.out).mono ?_; rintro e w2 ⟨rfl, hb2⟩; have HB2 : Hid (Below w.heap.size w w2) := HB.out.trans (hb2.mono HB.out.size); clear hb2))
    go_ret
    exact ⟨by rw [HA.out]; rfl, by rw [HA.out]; exact HS0.out _ HB2.out⟩
end Go.Proofs.YtdhgebdbiehchaaGreatDoor
namespace Go.Proofs.YtdhgebdbiehchaaGreatDoor
open Go.RowKit Go.Maps
set_option linter.unusedSimpArgs false
set_option linter.unusedVariables false

theorem ref_zero {d : Dk} (h : refE d = 0) : d.down = false ∧ ∃ blk, d.opn = some blk := by
  unfold refE at h
  split at h
  · cases h
  · rename_i hd
    split at h
    · rename_i ho
      exact ⟨by simpa using hd, Option.isSome_iff_exists.1 ho⟩
    · cases h
def AddS (bs bw be : Nat) (en : Ent) (w w' : World) : Prop := (w'.cell? ⟨bs, 1, none⟩ = some (.pointer (some ⟨bw, 0, none⟩)) ∧ (w'.cell? ⟨be, 0, none⟩ = some (.bool en.put) ∧ w'.cell? ⟨be, 1, none⟩ = some (.string (S en.key)) ∧ w'.cell? ⟨be, 2, none⟩ = some (.string (S en.val)))) ∧ Below w.heap.size w w'
theorem addS_next {bs bw be : Nat} {en : Ent} {w wx w' : World} (h : AddS bs bw be en w wx) (hb : Below wx.heap.size wx w') : AddS bs bw be en w w' := by
  obtain ⟨⟨h1, h4, h5, h6⟩, h7⟩ := h
  have f : ∀ {k j : Nat} {x : Value}, wx.cell? ⟨k, j, none⟩ = some x → w'.cell? ⟨k, j, none⟩ = some x := fun {k j x} hx => by
    have hlt := cell_lt (p := ⟨k, j, none⟩) hx
    rw [← hx]
    unfold World.cell?
    rw [hb.block k hlt]
  exact ⟨⟨f h1, f h4, f h5, f h6⟩, h7.trans (hb.mono h7.size)⟩
set_option maxRecDepth 100000 in
set_option maxHeartbeats 3200000 in
theorem add_let (E : Sent) (n : Nat) (G : Nat → Prop) (bs : Nat) (d : Dk) (q : StP) (en : Ent) (w : World) (hE : Env0 n w E) (hG : ∀ k, G k → n ≤ k ∧ k < w.heap.size) (hS : StoreAt w G bs d q) (hok : DkOk d) (hr : rightB en = true) (hrf : refE d = 0) :
    Calls Tryz.prog 53 #[.pointer (some ⟨bs, 0, none⟩), entV en] w fun e w' => e = .returned (.int .i64 (d.add en).1) ∧ Done E G bs w (d.add en).2 w' := by
  obtain ⟨hd, blk, ho⟩ := ref_zero hrf
  have hrn := right_not hr
  have hk : en.key.length ≤ 20 := by omega
  have hv : en.val.length ≤ 30 := by omega
  have hw := hS.wait
  rw [ho] at hw
  obtain ⟨bw, hbw, hwa⟩ := wait_some hw
  obtain ⟨W, hW⟩ : ∃ W : World, W = w.alloc (.cells #[.bool en.put, .string (S en.key), .string (S en.val)] 106) := ⟨_, rfl⟩
  have hB0 : Below w.heap.size w W := by rw [hW]; exact (Below.refl _ _).alloc (Nat.le_refl _) _
  have hx : Bx W w.heap.size #[.bool en.put, .string (S en.key), .string (S en.val)] 106 := by rw [hW]; exact bx_new w _ _ rfl
  have hzW : W.heap.size = w.heap.size + 1 := by rw [hW]; simp
  have HRI := entRight_any en W
  rw [hr] at HRI
  have HCE : Hid (∀ w1 : World, Below W.heap.size W w1 → (w1.cell? ⟨w.heap.size, 0, none⟩ = some (.bool en.put) ∧ w1.cell? ⟨w.heap.size, 1, none⟩ = some (.string (S en.key)) ∧ w1.cell? ⟨w.heap.size, 2, none⟩ = some (.string (S en.val))) ∧ w1.cell? ⟨bs, 1, none⟩ = some (.pointer (some ⟨bw, 0, none⟩)) ∧ Below w.heap.size w w1) := fun w1 hb => by
    have h1 := hx.below hb hx.lt
    have hb1 : Below w.heap.size w w1 := hB0.trans (hb.mono hB0.size)
    have h2 : w1.cell? ⟨bs, 1, none⟩ = some (optP q.ow) := (hS.box.below hb1 hS.box.lt).cell (j := 1) rfl
    rw [hbw] at h2
    exact ⟨⟨h1.cell (j := 0) rfl, h1.cell (j := 1) rfl, h1.cell (j := 2) rfl⟩, h2, hb1⟩
  have HRF : Hid (∀ w1 : World, Below W.heap.size W w1 → Calls Tryz.prog 38 #[.pointer (some ⟨bs, 0, none⟩)] w1 fun e w' => e = .returned (.int .i64 0) ∧ Below w1.heap.size w1 w') := fun w1 hb => by
    have hb1 : Below w.heap.size w w1 := hB0.trans (hb.mono hB0.size)
    have := refusal_any E n G bs d q w1 (hE.chg (F := fun _ => False) (Chg.of_below hb1) (fun _ h => h.elim)) (hS.below hb1)
    rw [hrf] at this
    exact this
  have hwl := hok_waits hok
  have hmo := hok.most
  have HTK : Hid (∀ w1 : World, Below w.heap.size w w1 → Calls Tryz.prog 100 #[.pointer (some ⟨bw, 0, none⟩), .agg #[.bool en.put, .string (S en.key), .string (S en.val)]] w1 fun e w' => e = .returned (.bool (takesB blk d.waits en)) ∧ Below w1.heap.size w1 w') := fun w1 hb => takes_any bw blk d.waits en q.v w1 (hwa.below hb) hk hv (by omega) (by omega)
  have HD0 : Hid (∀ w1 : World, Below w.heap.size w w1 → Done E G bs w d w1) := fun w1 hb => ⟨⟨q, (hS.below hb).mono (fun k h => .inl h)⟩, Chg.of_below hb⟩
  have HGZ : Hid (∀ k, G k → k < w.heap.size) := fun k hk => (hG k hk).2
  have HOK : Hid (DkOk d) := hok
  have HHO : Hid (d.opn = some blk) := ho
  cases hf : takesB blk d.waits en with
  | true =>
    rw [hf] at HTK
    have HA : Hid (d.add en = (0, { d with waits := d.waits ++ [en] })) := add_fits hr hd ho hf
    rw [hzW] at HCE HRF HRI
    have HSZ : Hid (∀ w1 : World, Below (w.heap.size + 1) W w1 → w.heap.size + 1 ≤ w1.heap.size) := fun w1 hb => by have := hb.size; omega
    have HAD : Hid (∀ w4 : World, Below w.heap.size w w4 → _) := fun w4 hb => done_add (en := en) HGZ.out (HD0.out w4 hb) HHO.out HOK.out hk hv
    subst hW
    unfold entV at HRI ⊢
    clear hE hG hS hok hwa hw hB0 hx hzW hbw hwl hmo ho
    go_enter Tryz.func53, Tryz.ntmps53
    go_wp2_with (first | (go_at_call 99; refine HRI.mono ?_; rintro e w1 ⟨rfl, hb⟩) | (go_at_call 38; refine (HRF.out w1 hb).mono ?_; rintro e w2 ⟨rfl, hb2⟩; have hbW : Below (w.heap.size + 1) (w.alloc (.cells #[.bool en.put, .string (S en.key), .string (S en.val)] 106)) w2 := hb.trans (hb2.mono (HSZ.out w1 hb)); obtain ⟨⟨e0, e1, e2⟩, k1, hbw2⟩ := HCE.out w2 hbW; have HBW : Hid (Below w.heap.size w w2) := hbw2; clear hb hb2 hbW hbw2))
    go_region_held3 (fun w' => (w'.cell? ⟨bs, 1, none⟩ = some (.pointer (some ⟨bw, 0, none⟩)) ∧ (w'.cell? ⟨w.heap.size, 0, none⟩ = some (.bool en.put) ∧ w'.cell? ⟨w.heap.size, 1, none⟩ = some (.string (S en.key)) ∧ w'.cell? ⟨w.heap.size, 2, none⟩ = some (.string (S en.val)))) ∧ Below w.heap.size w w') (first | (exact ⟨⟨k1, e0, e1, e2⟩, HBW.out.drew⟩) | (assumption) | (exact addS_next (by assumption) (by assumption))) (first | (go_at_call 100; refine (HTK.out _ ?_).mono ?_; exact And.right (by assumption); rintro e w3 ⟨rfl, hb3⟩))
    all_goals
      have hs3 : AddS bs bw w.heap.size en w w3 := by assumption
      obtain ⟨⟨m1, m2, m3, m4⟩, m5⟩ := hs3
      obtain ⟨bw4, n1, hadd⟩ := HAD.out w3 m5
      have hbe : bw4 = bw := by rw [m1] at n1; simpa using n1.symm
      subst hbe
      have HADD : Hid _ := hadd
      clear hadd n1 m5 e0 e1 e2 k1
      go_wp2_with fail
      go_region_with (first | (go_at_call 101; refine (HADD.out _ ?_).mono ?_; exact (Below.refl _ _).drew; rintro e w5 ⟨rfl, hd5⟩))
      all_goals
        go_wp2
        go_ret
        exact ⟨by rw [HA.out]; rfl, by rw [HA.out]; exact hd5⟩
  | false =>
    rw [hf] at HTK
    have hne : d.waits ≠ [] := by intro e; unfold takesB at hf; rw [e] at hf; simp at hf
    have HWR : Hid (∀ w3 : World, Below w.heap.size w w3 → Calls Tryz.prog 40 #[.pointer (some ⟨bs, 0, none⟩)] w3 fun e w' => ∃ v, e = .returned v ∧ FaultIs w' E d.write.1 v ∧ Done E G bs w d.write.2 w' ∧ Chg G w3 w') := fun w1 hb =>
      (write_any E n G bs blk d q w1 (hE.chg (F := fun _ => False) (Chg.of_below hb) (fun _ h => h.elim)) (fun k hk => ⟨(hG k hk).1, Nat.lt_of_lt_of_le (hG k hk).2 hb.size⟩) (hS.below hb) hok hd ho hne).mono fun e w' ⟨v, h1, h2, h3⟩ => ⟨v, h1, h2, h3.later hb, h3.2⟩
    have HAW := add_write hr hd ho hf
    have hfine := write_fine hok hd
    have HCW := codes_answer (write_codes d)
    have HEV : Hid (∀ (w1 : World) (d' : Dk), Done E G bs w d' w1 → Env w1 E) := fun w1 d' h => (done_env hE hG h).env
    have HNG : Hid (¬ G w.heap.size) := fun h => by have := (hG _ h).2; omega
    generalize d.write = r at *
    obtain ⟨re, rd⟩ := r
    simp only at HAW hfine HCW
    by_cases h0 : re = 0
    · subst h0
      rw [if_pos rfl] at HAW
      obtain ⟨f1, f2, f3, f4⟩ := hfine rfl
      have HA : Hid (d.add en = (0, { rd with waits := rd.waits ++ [en] })) := HAW
      have HAD : Hid (∀ w4 : World, Done E G bs w rd w4 → _) := fun w4 h => done_add (en := en) HGZ.out h (f3.trans HHO.out) f1 hk hv
      clear HAW hfine f1 f2 f3 f4 HCW hne
      rw [hzW] at HCE HRF HRI
      have HSZ : Hid (∀ w1 : World, Below (w.heap.size + 1) W w1 → w.heap.size + 1 ≤ w1.heap.size) := fun w1 hb => by have := hb.size; omega
      subst hW
      unfold entV at HRI ⊢
      clear hE hG hS hok hwa hw hB0 hx hzW hbw hwl hmo ho
      go_enter Tryz.func53, Tryz.ntmps53
      go_wp2_with (first | (go_at_call 99; refine HRI.mono ?_; rintro e w1 ⟨rfl, hb⟩) | (go_at_call 38; refine (HRF.out w1 hb).mono ?_; rintro e w2 ⟨rfl, hb2⟩; have hbW : Below (w.heap.size + 1) (w.alloc (.cells #[.bool en.put, .string (S en.key), .string (S en.val)] 106)) w2 := hb.trans (hb2.mono (HSZ.out w1 hb)); obtain ⟨⟨e0, e1, e2⟩, k1, hbw2⟩ := HCE.out w2 hbW; have HBW : Hid (Below w.heap.size w w2) := hbw2; clear hb hb2 hbW hbw2))
      go_region_held3 (fun w' => (w'.cell? ⟨bs, 1, none⟩ = some (.pointer (some ⟨bw, 0, none⟩)) ∧ (w'.cell? ⟨w.heap.size, 0, none⟩ = some (.bool en.put) ∧ w'.cell? ⟨w.heap.size, 1, none⟩ = some (.string (S en.key)) ∧ w'.cell? ⟨w.heap.size, 2, none⟩ = some (.string (S en.val)))) ∧ Below w.heap.size w w') (first | (exact ⟨⟨k1, e0, e1, e2⟩, HBW.out.drew⟩) | (assumption) | (exact addS_next (by assumption) (by assumption))) (first | (go_at_call 100; refine (HTK.out _ ?_).mono ?_; exact And.right (by assumption); rintro e w3 ⟨rfl, hb3⟩))
      all_goals
        have hs3 : AddS bs bw w.heap.size en w w3 := by assumption
        obtain ⟨⟨m1, m2, m3, m4⟩, m5⟩ := hs3
        have HM : Hid (Below w.heap.size w w3) := m5
        have HX3 : Hid (∀ w4 : World, Chg G w3 w4 → w4.cell? ⟨w.heap.size, 0, none⟩ = some (.bool en.put) ∧ w4.cell? ⟨w.heap.size, 1, none⟩ = some (.string (S en.key)) ∧ w4.cell? ⟨w.heap.size, 2, none⟩ = some (.string (S en.val))) := fun w4 hc => by
          have hlt := cell_lt (p := ⟨w.heap.size, 0, none⟩) m2
          have hh := hc.keep w.heap.size hlt HNG.out
          have f : ∀ {j : Nat} {x : Value}, w3.cell? ⟨w.heap.size, j, none⟩ = some x → w4.cell? ⟨w.heap.size, j, none⟩ = some x := fun {j x} hx => by
            rw [← hx]
            unfold World.cell?
            rw [hh]
          exact ⟨f m2, f m3, f m4⟩
        clear m1 m2 m3 m4 m5 e0 e1 e2 k1
        go_wp2_with (first | (go_at_call 40; refine (HWR.out w3 HM.out).mono ?_; rintro e w4 ⟨v, rfl, hf4, hd4, hc4⟩; obtain rfl := fault_nil hf4; obtain ⟨e0, e1, e2⟩ := HX3.out w4 hc4; obtain ⟨bw4, n1, hadd⟩ := HAD.out w4 hd4; have HADD : Hid _ := hadd; clear hadd hf4 hd4 hc4))
        go_region_with (first | (go_at_call 101; refine (HADD.out _ ?_).mono ?_; exact (Below.refl _ _).drew; rintro e w5 ⟨rfl, hd5⟩))
        all_goals
          go_wp2
          go_ret
          exact ⟨by rw [HA.out]; rfl, by rw [HA.out]; exact hd5⟩
    · rw [if_neg h0] at HAW
      have HA : Hid (d.add en = (re, rd)) := HAW
      clear HAW hfine hne
      rw [hzW] at HCE HRF HRI
      have HSZ : Hid (∀ w1 : World, Below (w.heap.size + 1) W w1 → w.heap.size + 1 ≤ w1.heap.size) := fun w1 hb => by have := hb.size; omega
      subst hW
      unfold entV at HRI ⊢
      clear hE hG hS hok hwa hw hB0 hx hzW hbw hwl hmo ho
      go_enter Tryz.func53, Tryz.ntmps53
      go_wp2_with (first | (go_at_call 99; refine HRI.mono ?_; rintro e w1 ⟨rfl, hb⟩) | (go_at_call 38; refine (HRF.out w1 hb).mono ?_; rintro e w2 ⟨rfl, hb2⟩; have hbW : Below (w.heap.size + 1) (w.alloc (.cells #[.bool en.put, .string (S en.key), .string (S en.val)] 106)) w2 := hb.trans (hb2.mono (HSZ.out w1 hb)); obtain ⟨⟨e0, e1, e2⟩, k1, hbw2⟩ := HCE.out w2 hbW; have HBW : Hid (Below w.heap.size w w2) := hbw2; clear hb hb2 hbW hbw2))
      go_region_held3 (fun w' => (w'.cell? ⟨bs, 1, none⟩ = some (.pointer (some ⟨bw, 0, none⟩)) ∧ (w'.cell? ⟨w.heap.size, 0, none⟩ = some (.bool en.put) ∧ w'.cell? ⟨w.heap.size, 1, none⟩ = some (.string (S en.key)) ∧ w'.cell? ⟨w.heap.size, 2, none⟩ = some (.string (S en.val)))) ∧ Below w.heap.size w w') (first | (exact ⟨⟨k1, e0, e1, e2⟩, HBW.out.drew⟩) | (assumption) | (exact addS_next (by assumption) (by assumption))) (first | (go_at_call 100; refine (HTK.out _ ?_).mono ?_; exact And.right (by assumption); rintro e w3 ⟨rfl, hb3⟩))
      all_goals
        have hs3 : AddS bs bw w.heap.size en w w3 := by assumption
        have HM : Hid (Below w.heap.size w w3) := hs3.2
        clear e0 e1 e2 k1
        go_wp2_with (first | (go_at_call 40; refine (HWR.out w3 HM.out).mono ?_; rintro e w4 ⟨v, rfl, hf4, hd4, hc4⟩; obtain ⟨b, rfl⟩ := fault_some hf4 h0; have HFA : Hid (FaultIs w4 E re (.iface 128 (.pointer (some ⟨b, 0, none⟩)))) := hf4; have HDN : Hid (Done E G bs w rd w4) := hd4; clear hf4 hd4 hc4) | (go_at_call 41; refine (answer_any E re _ w4 (HEV.out w4 _ HDN.out) HFA.out HCW).mono ?_; rintro e w7 ⟨rfl, hb7⟩))
        go_ret
        exact ⟨by rw [HA.out]; rfl, by rw [HA.out]; exact done_below HDN.out hb7⟩
theorem addE_any (E : Sent) (n : Nat) (G : Nat → Prop) (bs : Nat) (d : Dk) (q : StP) (en : Ent) (w : World) (hE : Env0 n w E) (hG : ∀ k, G k → n ≤ k ∧ k < w.heap.size) (hS : StoreAt w G bs d q) (hok : DkOk d) :
    Calls Tryz.prog 53 #[.pointer (some ⟨bs, 0, none⟩), entV en] w fun e w' => e = .returned (.int .i64 (d.add en).1) ∧ Done E G bs w (d.add en).2 w' := by
  by_cases h : rightB en = false ∨ refE d ≠ 0
  · exact add_refused E n G bs d q en w hE hS h
  · have h1 : rightB en = true := by cases hh : rightB en; exact absurd (.inl hh) h; rfl
    have h2 : refE d = 0 := by by_cases hh : refE d = 0; exact hh; exact absurd (.inr hh) h
    exact add_let E n G bs d q en w hE hG hS hok h1 h2
end Go.Proofs.YtdhgebdbiehchaaGreatDoor
namespace Go.Proofs.YtdhgebdbiehchaaGreatDoor
open Go.RowKit Go.Maps
set_option linter.unusedSimpArgs false
set_option linter.unusedVariables false

theorem putS_any (E : Sent) (n : Nat) (G : Nat → Prop) (bs : Nat) (d : Dk) (q : StP) (key val : List UInt8) (w : World) (hE : Env0 n w E) (hG : ∀ k, G k → n ≤ k ∧ k < w.heap.size) (hS : StoreAt w G bs d q) (hok : DkOk d) :
    Calls Tryz.prog 26 #[.pointer (some ⟨bs, 0, none⟩), .string (S key), .string (S val)] w fun e w' => e = .returned (.int .i64 (d.add ⟨true, key, val⟩).1) ∧ Done E G bs w (d.add ⟨true, key, val⟩).2 w' := by
  have HA := addE_any E n G bs d q ⟨true, key, val⟩ w hE hG hS hok
  unfold entV at HA
  simp only at HA
  clear hE hG hS hok
  generalize d.add ⟨true, key, val⟩ = r at *
  go_enter Tryz.func26, Tryz.ntmps26
  go_wp2_with (first | (go_at_call 53; refine HA.mono ?_; rintro e w1 ⟨rfl, hd⟩))
  go_ret
  exact ⟨rfl, hd⟩
theorem S_nil : S [] = (⟨#[]⟩ : ByteArray) := rfl
theorem delS_any (E : Sent) (n : Nat) (G : Nat → Prop) (bs : Nat) (d : Dk) (q : StP) (key : List UInt8) (w : World) (hE : Env0 n w E) (hG : ∀ k, G k → n ≤ k ∧ k < w.heap.size) (hS : StoreAt w G bs d q) (hok : DkOk d) :
    Calls Tryz.prog 24 #[.pointer (some ⟨bs, 0, none⟩), .string (S key)] w fun e w' => e = .returned (.int .i64 (d.add ⟨false, key, []⟩).1) ∧ Done E G bs w (d.add ⟨false, key, []⟩).2 w' := by
  have HA := addE_any E n G bs d q ⟨false, key, []⟩ w hE hG hS hok
  unfold entV at HA
  simp only [S_nil] at HA
  clear hE hG hS hok
  generalize d.add ⟨false, key, []⟩ = r at *
  go_enter Tryz.func24, Tryz.ntmps24
  go_wp2_with (first | (go_at_call 53; refine HA.mono ?_; rintro e w1 ⟨rfl, hd⟩))
  go_ret
  exact ⟨rfl, hd⟩
theorem fileR_codes (d : Dk) (s : List UInt8) : (d.fileR s).2 = 0 ∨ (d.fileR s).2 = 6 ∨ (d.fileR s).2 = 7 ∨ (d.fileR s).2 = 8 ∨ (d.fileR s).2 = 1 ∨ (d.fileR s).2 = 2 := by
  unfold Dk.fileR
  split
  · simp
  · split <;> simp
set_option maxHeartbeats 1600000 in
theorem fileS_any (E : Sent) (n : Nat) (G : Nat → Prop) (bs : Nat) (d : Dk) (q : StP) (s : ByteArray) (w : World) (hE : Env0 n w E) (hS : StoreAt w G bs d q) (hs : s.size ≤ 140737488351232) :
    Calls Tryz.prog 19 #[.pointer (some ⟨bs, 0, none⟩), .string s] w fun e w' => e = .returned (.tuple #[.string (S (d.fileR s.data.toList).1), .int .i64 (d.fileR s.data.toList).2]) ∧ Below w.heap.size w w' := by
  have c0 : w.cell? ⟨bs, 0, none⟩ = some (.pointer (some ⟨q.bd, 0, none⟩)) := hS.box.cell (j := 0) rfl
  have HRD := read_disk E n q.Fd q.bd d q.p s w hE hS.disk hs
  have HEV : Hid (∀ w1 : World, Below w.heap.size w w1 → Env w1 E) := fun w1 hb => hE.env.below hb
  have HCO := fileR_codes d s.data.toList
  clear hE hS
  generalize d.fileR s.data.toList = r at *
  go_enter Tryz.func19, Tryz.ntmps19
  go_wp2_with (first | (go_at_call 50; refine HRD.mono ?_; rintro e w1 ⟨ev, rfl, hf, hb⟩; have HFA : Hid (FaultIs w1 E r.2 ev) := hf; have HB : Hid (Below w.heap.size w w1) := hb; clear hf hb) | (go_at_call 41; refine (answer_any E r.2 ev w1 (HEV.out w1 HB.out) HFA.out HCO).mono ?_; rintro e w2 ⟨rfl, hb2⟩))
  go_ret2
  exact ⟨rfl, HB.out.trans (hb2.mono HB.out.size)⟩
end Go.Proofs.YtdhgebdbiehchaaGreatDoor
namespace Go.Proofs.YtdhgebdbiehchaaGreatDoor
open Go.RowKit Go.Maps
set_option linter.unusedSimpArgs false
set_option linter.unusedVariables false

def dk0 (room : Nat) : Dk := ⟨room, false, none, none, none, none, none, []⟩
theorem dk0_file (room i : Nat) : (dk0 room).file i = none := by
  unfold Dk.file dk0
  split
  · rfl
  · split
    · rfl
    · split <;> rfl
def Fnew (w : World) (k : Nat) : Prop := k = w.heap.size ∨ k = w.heap.size + 1
theorem disk0 (room : Nat) (w : World) : DiskAt ((w.alloc (.map #[] 0)).alloc (.cells #[.int .i64 (room : Int), .map (some w.heap.size), .bool false, .pointer none] 183)) (Fnew w) (w.heap.size + 1) (dk0 room) ⟨w.heap.size, none, fun _ => 0, fun _ => .slice none 0 0⟩ := by
  refine ⟨bx_new _ _ _ (by simp), ⟨.map [], own_tight ((World.ownsMap_made w _ _ _).alloc _) (Nat.zero_le _), ?_, rfl⟩, trivial, fun i f h => (by rw [dk0_file] at h; cases h), fun i j _ h => (by rw [dk0_file] at h; cases h), fun i j _ h => (by rw [dk0_file] at h; cases h), .inr rfl, .inl rfl, fun c e => (by cases e), fun i h => (by rw [dk0_file] at h; cases h), fun i h => (by rw [dk0_file] at h; cases h), fun s k e => (by cases e)⟩
  refine view_empty.congr (fun l => ?_)
  unfold fM
  split
  · rw [dk0_file]; rfl
  · rfl
set_option maxHeartbeats 1600000 in
theorem new_any (room : Nat) (w : World) :
    Calls Tryz.prog 67 #[.int .i64 (room : Int)] w fun e w' => e = .returned (.pointer (some ⟨w.heap.size + 1, 0, none⟩)) ∧ w' = (w.alloc (.map #[] 0)).alloc (.cells #[.int .i64 (room : Int), .map (some w.heap.size), .bool false, .pointer none] 183) := by
  have hmm := @run_makeMap Tryz.prog
  go_enter Tryz.func67, Tryz.ntmps67
  go_wp2
  go_ret
  exact ⟨rfl, rfl⟩
set_option maxHeartbeats 1600000 in
theorem disk_bad (room : Int) (w : World) (h : room < 0 ∨ 100000 < room) :
    Calls Tryz.prog 35 #[.int .i64 room] w fun e w' => e = .returned (.tuple #[.pointer none, .int .i64 1]) ∧ w' = w := by
  by_cases h0 : room < 0
  · go_enter Tryz.func35, Tryz.ntmps35
    go_wp2
    go_ret2
    exact ⟨rfl, rfl⟩
  · have h1 : 100000 < room := by omega
    go_enter Tryz.func35, Tryz.ntmps35
    go_wp2
    go_ret2
    exact ⟨rfl, rfl⟩
def Gnew (w w' : World) (k : Nat) : Prop := w.heap.size ≤ k ∧ k < w'.heap.size
set_option maxHeartbeats 1600000 in
theorem disk_good (room : Nat) (w : World) (h : room ≤ 100000) :
    Calls Tryz.prog 35 #[.int .i64 (room : Int)] w fun e w' => ∃ bs q, e = .returned (.tuple #[.pointer (some ⟨bs, 0, none⟩), .int .i64 0]) ∧ StoreAt w' (Gnew w w') bs (dk0 room) q ∧ Below w.heap.size w w' := by
  have h0 : ¬ ((room : Int) < 0) := by omega
  have h1 : ¬ ((100000 : Int) < (room : Int)) := by omega
  go_enter Tryz.func35, Tryz.ntmps35
  go_wp2_with (first | (go_at_call 67; refine (new_any room w).mono ?_; rintro e w1 ⟨rfl, hw1⟩; have hsz : w1.heap.size = w.heap.size + 1 + 1 := (by rw [hw1]; simp); have HD : Hid (DiskAt w1 (Fnew w) (w.heap.size + 1) (dk0 room) ⟨w.heap.size, none, fun _ => 0, fun _ => .slice none 0 0⟩) := (by rw [hw1]; exact disk0 room w); have HB : Hid (Below w.heap.size w w1) := (by rw [hw1]; exact ((Below.refl _ _).alloc (Nat.le_refl _) _).alloc (by simp) _); clear hw1))
  go_ret2
  refine ⟨w.heap.size + 1 + 1, ⟨w.heap.size + 1, Fnew w, ⟨w.heap.size, none, fun _ => 0, fun _ => .slice none 0 0⟩, none, .slice none 0 0⟩, rfl, ?_, HB.out.alloc (by omega) _⟩
  refine ⟨bx_new _ _ _ (by omega), HD.out.alloc _, rfl, ?_, fun b e => (by cases e), fun g e => (by cases e), ⟨by omega, by simp; omega⟩, ?_, fun b e => (by cases e), fun g e => (by cases e)⟩
  · rintro (e | e) <;> omega
  · rintro k (e | e)
    · exact ⟨by omega, by simp; omega⟩
    · exact ⟨by omega, by simp; omega⟩
end Go.Proofs.YtdhgebdbiehchaaGreatDoor
namespace Go.Proofs.YtdhgebdbiehchaaGreatDoor
open Go.RowKit Go.Maps
set_option linter.unusedSimpArgs false
set_option linter.unusedVariables false

theorem create_arg {d : Dk} {a b c : Int} (h : wellB a b c = false) : d.create a b c = (1, d) := by unfold Dk.create; rw [if_pos h]
theorem create_down {d : Dk} {a b c : Int} (h : wellB a b c = true) (hd : d.down = true) : d.create a b c = (7, d) := by unfold Dk.create; rw [if_neg (by simp [h]), if_pos hd]
theorem create_there {d : Dk} {a b c : Int} (h : wellB a b c = true) (hd : d.down = false) (hf : d.f0.isSome = true) : d.create a b c = (5, d) := by unfold Dk.create; rw [if_neg (by simp [h]), if_neg (by simp [hd]), if_pos hf]
theorem create_makes {d : Dk} {a b c : Int} (h : wellB a b c = true) (hd : d.down = false) (hf : d.f0.isSome = false) : d.create a b c = d.opening a.toNat [stMake 0, stAppend 0 (headL a.toNat b.toNat c.toNat), stSync 0] := by unfold Dk.create; rw [if_neg (by simp [h]), if_neg (by simp [hd]), if_neg (by simp [hf])]
theorem make_log (w : World) : Calls Tryz.prog 54 #[.string ⟨#[108, 111, 103]⟩] w (Made w (stMake 0) none) := by
  rw [S_log]
  exact makeS_any 0 w (by omega)
set_option maxRecDepth 100000 in
set_option maxHeartbeats 1600000 in
theorem create_not (E : Sent) (n : Nat) (G : Nat → Prop) (bs : Nat) (d : Dk) (q : StP) (a b c : Int) (w : World) (hE : Env0 n w E) (hS : StoreAt w G bs d q) (h : wellB a b c = false ∨ d.down = true ∨ d.f0.isSome = true) :
    Calls Tryz.prog 36 #[.pointer (some ⟨bs, 0, none⟩), .agg #[.int .i64 a, .int .i64 b, .int .i64 c]] w fun e w' => e = .returned (.int .i64 (d.create a b c).1) ∧ Done E G bs w (d.create a b c).2 w' := by
  have HS0 : Hid (∀ w1 : World, Below w.heap.size w w1 → Done E G bs w d w1) := fun w1 hb => ⟨⟨q, (hS.below hb).mono (fun k h => .inl h)⟩, Chg.of_below hb⟩
  obtain ⟨W, hW⟩ : ∃ W : World, W = w.alloc (.cells #[.int .i64 a, .int .i64 b, .int .i64 c] 29) := ⟨_, rfl⟩
  have hB0 : Below w.heap.size w W := by rw [hW]; exact (Below.refl _ _).alloc (Nat.le_refl _) _
  have HB0 : Hid (∀ w1 : World, Below W.heap.size W w1 → Below w.heap.size w w1) := fun w1 hb => hB0.trans (hb.mono hB0.size)
  have HIC := isConfig_any a b c W
  have HC0 : Hid (∀ w1 : World, Below w.heap.size w w1 → w1.cell? ⟨bs, 0, none⟩ = some (.pointer (some ⟨q.bd, 0, none⟩))) := fun w1 hb => (hS.box.below hb hS.box.lt).cell (j := 0) rfl
  have HHA : Hid (∀ w1 : World, Below w.heap.size w w1 → _) := fun w1 hb => has_any E n q.Fd q.bd d q.p ⟨#[108, 111, 103]⟩ w1 (hE.chg (F := fun _ => False) (Chg.of_below hb) (fun _ h => h.elim)) (hS.disk.below hb) (by decide)
  have HEV : Hid (∀ w1 : World, Below w.heap.size w w1 → Env w1 E) := fun w1 hb => hE.env.below hb
  cases hw : wellB a b c with
  | false =>
    rw [hw] at HIC
    have HA : Hid (d.create a b c = (1, d)) := create_arg hw
    subst hW
    clear hE hS hB0 h
    go_enter Tryz.func36, Tryz.ntmps36
    go_wp2_with (first | (go_at_call 68; refine HIC.mono ?_; rintro e w1 ⟨rfl, hb⟩; have HB : Hid (Below w.heap.size w w1) := HB0.out w1 hb; clear hb))
    go_ret
    exact ⟨by rw [HA.out]; rfl, by rw [HA.out]; exact HS0.out _ HB.out⟩
  | true =>
    rw [hw] at HIC
    cases hd : d.down with
    | true =>
      rw [hd] at HHA
      simp only [if_true, Bool.not_true, Bool.false_and] at HHA
      have HA : Hid (d.create a b c = (7, d)) := create_down hw hd
      subst hW
      clear hE hS hB0 h
      go_enter Tryz.func36, Tryz.ntmps36
      go_wp2_with (first | (go_at_call 68; refine HIC.mono ?_; rintro e w1 ⟨rfl, hb⟩; have HB : Hid (Below w.heap.size w w1) := HB0.out w1 hb; have k0 := HC0.out w1 HB.out; clear hb) | (go_at_call 69; refine (HHA.out w1 HB.out).mono ?_; rintro e w2 ⟨ev, rfl, hf, hb⟩; obtain ⟨fb, rfl⟩ := fault_some hf (by decide); have HB2 : Hid (Below w.heap.size w w2) := HB.out.trans (hb.mono HB.out.size); have HFA : Hid (FaultIs w2 E 7 (.iface 128 (.pointer (some ⟨fb, 0, none⟩)))) := hf; clear hf hb) | (go_at_call 41; refine (answer_any E 7 _ w2 (HEV.out w2 HB2.out) HFA.out (by decide)).mono ?_; rintro e w3 ⟨rfl, hb3⟩))
      go_ret
      exact ⟨by rw [HA.out]; rfl, by rw [HA.out]; exact HS0.out _ (HB2.out.trans (hb3.mono HB2.out.size))⟩
    | false =>
      rw [hd] at HHA
      have hf0 : d.f0.isSome = true := by
        rcases h with h | h | h
        · rw [hw] at h; cases h
        · rw [hd] at h; cases h
        · exact h
      have hfn : (d.file (nameN (⟨#[108, 111, 103]⟩ : ByteArray).data.toList)).isSome = true := hf0
      rw [hfn] at HHA
      simp only [Bool.false_eq_true, if_false, Bool.not_false, Bool.true_and] at HHA
      have HA : Hid (d.create a b c = (5, d)) := create_there hw hd hf0
      subst hW
      clear hE hS hB0 h hf0 hfn
      go_enter Tryz.func36, Tryz.ntmps36
      go_wp2_with (first | (go_at_call 68; refine HIC.mono ?_; rintro e w1 ⟨rfl, hb⟩; have HB : Hid (Below w.heap.size w w1) := HB0.out w1 hb; have k0 := HC0.out w1 HB.out; clear hb) | (go_at_call 69; refine (HHA.out w1 HB.out).mono ?_; rintro e w2 ⟨ev, rfl, hf, hb⟩; obtain rfl := fault_nil hf; have HB2 : Hid (Below w.heap.size w w2) := HB.out.trans (hb.mono HB.out.size); clear hf hb))
      go_ret
      exact ⟨by rw [HA.out]; rfl, by rw [HA.out]; exact HS0.out _ HB2.out⟩
end Go.Proofs.YtdhgebdbiehchaaGreatDoor
namespace Go.Proofs.YtdhgebdbiehchaaGreatDoor
open Go.RowKit Go.Maps
set_option linter.unusedSimpArgs false
set_option linter.unusedVariables false

theorem steps_three {w4 : World} {F : Nat → Prop} {sa sb sc : St} {a1 a2 b1 b2 c1 c2 : ByteArray} {ka kb kc : Nat} {ca cb cc : Array Value} (hF : ∀ q, F q → q < w4.heap.size) (ha : TakeAt w4 F sa (.func (.func ka) #[] ca)) (hb : TakeAt w4 F sb (.func (.func kb) #[] cb)) (hc : TakeAt w4 F sc (.func (.func kc) #[] cc)) (fa : StFine sa) (fb : StFine sb) (fc : StFine sc) :
    StepsAt (w4.alloc (.cells #[.string a1, .string a2, .func (.func ka) #[] ca, .string b1, .string b2, .func (.func kb) #[] cb, .string c1, .string c2, .func (.func kc) #[] cc] 86)) F w4.heap.size #[.string a1, .string a2, .func (.func ka) #[] ca, .string b1, .string b2, .func (.func kb) #[] cb, .string c1, .string c2, .func (.func kc) #[] cc] [sa, sb, sc] := by
  have hB := ((Below.refl w4.heap.size w4).alloc (Nat.le_refl _) (.cells #[.string a1, .string a2, .func (.func ka) #[] ca, .string b1, .string b2, .func (.func kb) #[] cb, .string c1, .string c2, .func (.func kc) #[] cc] 86))
  have tk : ∀ {s : St} {v : Value}, TakeAt w4 F s v → TakeAt (w4.alloc (.cells #[.string a1, .string a2, .func (.func ka) #[] ca, .string b1, .string b2, .func (.func kb) #[] cb, .string c1, .string c2, .func (.func kc) #[] cc] 86)) F s v := fun h => h.turn (Chg.of_below (F := fun _ => False) hB) (fun _ h => h.elim) (fun _ _ h => h)
  refine ⟨bx_new w4 _ _ rfl, fun h => absurd (hF _ h) (by omega), ?_⟩
  intro j s hj
  match j, hj with
  | 0, hj => cases hj; exact ⟨a1, a2, _, rfl, rfl, rfl, tk ha, fa⟩
  | 1, hj => cases hj; exact ⟨b1, b2, _, rfl, rfl, rfl, tk hb, fb⟩
  | 2, hj => cases hj; exact ⟨c1, c2, _, rfl, rfl, rfl, tk hc, fc⟩
  | j + 3, hj => simp at hj
theorem create_call {E : Sent} {n : Nat} {G : Nat → Prop} {bs : Nat} {d : Dk} {q : StP} {blk seed bits g : Nat} {t : List UInt8} {w w0 w1 w2 w3 w4 : World} {a1 a2 b1 b2 c1 c2 : ByteArray} {ka kb kc : Nat} {ca cb cc : Array Value} (hE : Env0 n w E) (hG : ∀ k, G k → n ≤ k ∧ k < w.heap.size) (hS : StoreAt w G bs d q) (hok : DkOk d) (hup : d.down = false) (h0 : Below w.heap.size w w0)
    (ha : ∀ F : Nat → Prop, (∀ q, F q → q < w0.heap.size) → (∀ q, (none : Option Nat) = some q → ¬ F q) → TakeAt w1 F (stMake 0) (.func (.func ka) #[] ca)) (h1 : Below w0.heap.size w0 w1) (h2 : Below w1.heap.size w1 w2) (hg : w.heap.size ≤ g)
    (hb : ∀ F : Nat → Prop, (∀ q, F q → q < w2.heap.size) → (∀ q, some g = some q → ¬ F q) → TakeAt w3 F (stAppend 0 t) (.func (.func kb) #[] cb)) (h3 : Below w2.heap.size w2 w3)
    (hc : ∀ F : Nat → Prop, (∀ q, F q → q < w3.heap.size) → (∀ q, (none : Option Nat) = some q → ¬ F q) → TakeAt w4 F (stSync 0) (.func (.func kc) #[] cc)) (h4 : Below w3.heap.size w3 w4) :
    Calls Tryz.prog 70 #[.pointer (some ⟨bs, 0, none⟩), .agg #[.int .i64 (blk : Int), .int .i64 (seed : Int), .int .i64 (bits : Int)], .slice (some ⟨w4.heap.size, 0, none⟩) 3 3] (w4.alloc (.cells #[.string a1, .string a2, .func (.func ka) #[] ca, .string b1, .string b2, .func (.func kb) #[] cb, .string c1, .string c2, .func (.func kc) #[] cc] 86)) fun e w' => e = .returned (.int .i64 (d.opening blk [stMake 0, stAppend 0 t, stSync 0]).1) ∧ Done E G bs w (d.opening blk [stMake 0, stAppend 0 t, stSync 0]).2 w' ∧ Chg G (w4.alloc (.cells #[.string a1, .string a2, .func (.func ka) #[] ca, .string b1, .string b2, .func (.func kb) #[] cb, .string c1, .string c2, .func (.func kc) #[] cc] 86)) w' := by
  have z0 := h0.size
  have z1 := h1.size
  have z2 := h2.size
  have z3 := h3.size
  have z4 := h4.size
  have hF : ∀ x, q.Fd x → x < w.heap.size := fun x hx => (hG x (hS.gd x hx)).2
  have B1 : Below w.heap.size w w1 := h0.trans (h1.mono z0)
  have B2 : Below w.heap.size w w2 := B1.trans (h2.mono (by omega))
  have B3 : Below w.heap.size w w3 := B2.trans (h3.mono (by omega))
  have B4 : Below w.heap.size w w4 := B3.trans (h4.mono (by omega))
  have B5 : Below w.heap.size w (w4.alloc (.cells #[.string a1, .string a2, .func (.func ka) #[] ca, .string b1, .string b2, .func (.func kb) #[] cb, .string c1, .string c2, .func (.func kc) #[] cc] 86)) := B4.alloc (by omega) _
  have ta := ha q.Fd (fun x hx => by have := hF x hx; omega) (fun x e => (by cases e))
  have ta4 : TakeAt w4 q.Fd (stMake 0) (.func (.func ka) #[] ca) := ta.turn (Chg.of_below (F := fun _ => False) (h2.trans ((h3.mono z2).trans (h4.mono (by omega))))) (fun _ h => h.elim) (fun _ _ h => h)
  have tb := hb q.Fd (fun x hx => by have := hF x hx; omega) (fun x e hf => by cases e; have := hF _ hf; omega)
  have tb4 : TakeAt w4 q.Fd (stAppend 0 t) (.func (.func kb) #[] cb) := tb.turn (Chg.of_below (F := fun _ => False) h4) (fun _ h => h.elim) (fun _ _ h => h)
  have tc := hc q.Fd (fun x hx => by have := hF x hx; omega) (fun x e => (by cases e))
  have hT := steps_three (a1 := a1) (a2 := a2) (b1 := b1) (b2 := b2) (c1 := c1) (c2 := c2) (F := q.Fd) (fun x hx => by have := hF x hx; omega) ta4 tb4 tc ⟨by simp [stMake], by simp [stMake], by simp [stMake]⟩ ⟨by simp [stAppend], by simp [stAppend], by simp [stAppend]⟩ stSync_fine
  exact (sopen_any E n G bs d q blk seed bits w4.heap.size 3 _ [stMake 0, stAppend 0 t, stSync 0] _ (hE.chg (F := fun _ => False) (Chg.of_below B5) (fun _ h => h.elim)) (fun k hk => ⟨(hG k hk).1, Nat.lt_of_lt_of_le (hG k hk).2 B5.size⟩) (hS.below B5) hok hup hT (by simp) (by simp)).mono fun e w' ⟨e1, e2⟩ => ⟨e1, e2.later B5, e2.2⟩
end Go.Proofs.YtdhgebdbiehchaaGreatDoor
namespace Go.Proofs.YtdhgebdbiehchaaGreatDoor
open Go.RowKit Go.Maps
set_option linter.unusedSimpArgs false
set_option linter.unusedVariables false

theorem crS_next {b : Nat} {x y z : Value} {wx w' : World} (h : wx.cell? ⟨b, 0, none⟩ = some x ∧ wx.cell? ⟨b, 1, none⟩ = some y ∧ wx.cell? ⟨b, 2, none⟩ = some z) (hb : Below wx.heap.size wx w') : w'.cell? ⟨b, 0, none⟩ = some x ∧ w'.cell? ⟨b, 1, none⟩ = some y ∧ w'.cell? ⟨b, 2, none⟩ = some z := by
  obtain ⟨h1, h4, h5⟩ := h
  have f : ∀ {k j : Nat} {x : Value}, wx.cell? ⟨k, j, none⟩ = some x → w'.cell? ⟨k, j, none⟩ = some x := fun {k j x} hx => by
    have hlt := cell_lt (p := ⟨k, j, none⟩) hx
    rw [← hx]
    unfold World.cell?
    rw [hb.block k hlt]
  exact ⟨f h1, f h4, f h5⟩
theorem crS_chg {b : Nat} {x y z : Value} {G : Nat → Prop} {wx w' : World} (h : wx.cell? ⟨b, 0, none⟩ = some x ∧ wx.cell? ⟨b, 1, none⟩ = some y ∧ wx.cell? ⟨b, 2, none⟩ = some z) (hb : Chg G wx w') (hn : ¬ G b) : w'.cell? ⟨b, 0, none⟩ = some x ∧ w'.cell? ⟨b, 1, none⟩ = some y ∧ w'.cell? ⟨b, 2, none⟩ = some z := by
  obtain ⟨h1, h4, h5⟩ := h
  have hlt := cell_lt (p := ⟨b, 0, none⟩) h1
  have f : ∀ {j : Nat} {x : Value}, wx.cell? ⟨b, j, none⟩ = some x → w'.cell? ⟨b, j, none⟩ = some x := fun {j x} hx => by
    rw [← hx]
    unfold World.cell?
    rw [hb.keep b hlt hn]
  exact ⟨f h1, f h4, f h5⟩
set_option maxRecDepth 100000 in
set_option maxHeartbeats 3200000 in
theorem create_new (E : Sent) (n : Nat) (G : Nat → Prop) (bs : Nat) (d : Dk) (q : StP) (a b c : Nat) (w : World) (hE : Env0 n w E) (hG : ∀ k, G k → n ≤ k ∧ k < w.heap.size) (hS : StoreAt w G bs d q) (hok : DkOk d) (hw : wellB a b c = true) (hd : d.down = false) (hf : d.f0.isSome = false) :
    Calls Tryz.prog 36 #[.pointer (some ⟨bs, 0, none⟩), .agg #[.int .i64 (a : Int), .int .i64 (b : Int), .int .i64 (c : Int)]] w fun e w' => e = .returned (.int .i64 (d.create a b c).1) ∧ Done E G bs w (d.create a b c).2 w' := by
  have hwb := hw
  unfold wellB at hwb
  simp only [Bool.and_eq_true, decide_eq_true_eq] at hwb
  obtain ⟨W, hW⟩ : ∃ W : World, W = w.alloc (.cells #[.int .i64 (a : Int), .int .i64 (b : Int), .int .i64 (c : Int)] 29) := ⟨_, rfl⟩
  have hB0 : Below w.heap.size w W := by rw [hW]; exact (Below.refl _ _).alloc (Nat.le_refl _) _
  have hx : Bx W w.heap.size #[.int .i64 (a : Int), .int .i64 (b : Int), .int .i64 (c : Int)] 29 := by rw [hW]; exact bx_new w _ _ rfl
  have hzW : W.heap.size = w.heap.size + 1 := by rw [hW]; simp
  have HIC := isConfig_any a b c W
  rw [hw] at HIC
  have HC0 : Hid (∀ w1 : World, Below (w.heap.size + 1) W w1 → w1.cell? ⟨bs, 0, none⟩ = some (.pointer (some ⟨q.bd, 0, none⟩)) ∧ (w1.cell? ⟨w.heap.size, 0, none⟩ = some (.int .i64 (a : Int)) ∧ w1.cell? ⟨w.heap.size, 1, none⟩ = some (.int .i64 (b : Int)) ∧ w1.cell? ⟨w.heap.size, 2, none⟩ = some (.int .i64 (c : Int))) ∧ Below w.heap.size w w1 ∧ w.heap.size + 1 ≤ w1.heap.size) := fun w1 hb => by
    have hb1 : Below w.heap.size w w1 := hB0.trans (hb.mono (by omega))
    have h1 := hx.below hb (by omega)
    exact ⟨(hS.box.below hb1 hS.box.lt).cell (j := 0) rfl, ⟨h1.cell (j := 0) rfl, h1.cell (j := 1) rfl, h1.cell (j := 2) rfl⟩, hb1, by have := hb.size; omega⟩
  have HHA : Hid (∀ w1 : World, Below w.heap.size w w1 → _) := fun w1 hb => has_any E n q.Fd q.bd d q.p ⟨#[108, 111, 103]⟩ w1 (hE.chg (F := fun _ => False) (Chg.of_below hb) (fun _ h => h.elim)) (hS.disk.below hb) (by decide)
  rw [hd] at HHA
  have hfn : (d.file (nameN (⟨#[108, 111, 103]⟩ : ByteArray).data.toList)).isSome = false := hf
  rw [hfn] at HHA
  simp only [Bool.false_eq_true, if_false, Bool.not_false, Bool.true_and] at HHA
  have HHD : Hid (∀ wx : World, Below w.heap.size w wx → Calls Tryz.prog 71 #[.agg #[.int .i64 (a : Int), .int .i64 (b : Int), .int .i64 (c : Int)]] wx fun e w' => ∃ g cp, e = .returned (.slice (some ⟨g, 0, none⟩) (headL a b c).length cp) ∧ w'.ownsRow 0 5 1 (.slice (some ⟨g, 0, none⟩) (headL a b c).length cp) (headL a b c).length (cellsB (headL a b c)) ∧ wx.heap.size ≤ g ∧ Below wx.heap.size wx w') := fun wx hb => by
    refine (recHeadB_any a b c wx (by omega) (by omega) (by omega) (hE.env.halves.below hb hE.env.halves.1)).mono ?_
    rintro e w' ⟨v, rfl, hr, hb'⟩
    obtain ⟨g, cp, rfl, hgl, _⟩ := hr.form (by rw [headL_length]; omega)
    exact ⟨g, cp, rfl, own_lower hr (Nat.zero_le _), hgl, hb'⟩
  have HAP : Hid (∀ (w1 : World) (g cp : Nat), w1.ownsRow 0 5 1 (.slice (some ⟨g, 0, none⟩) (headL a b c).length cp) (headL a b c).length (cellsB (headL a b c)) → Calls Tryz.prog 55 #[.string ⟨#[108, 111, 103]⟩, .slice (some ⟨g, 0, none⟩) (headL a b c).length cp] w1 (Made w1 (stAppend 0 (headL a b c)) (some g))) := fun w1 g cp hr => append_log g cp _ w1 hr (by rw [headL_length]; omega) (by rw [headL_length]; omega)
  have HA : Hid (d.create a b c = d.opening a [stMake 0, stAppend 0 (headL a b c), stSync 0]) := create_makes hw hd hf
  have HE : Hid (Env0 n w E) := hE
  have HG : Hid (∀ k, G k → n ≤ k ∧ k < w.heap.size) := hG
  have HS : Hid (StoreAt w G bs d q) := hS
  have HOK : Hid (DkOk d) := hok
  rw [hzW] at HIC
  subst hW
  have HNG : Hid (¬ G w.heap.size) := fun h => by have := (HG.out _ h).2; omega
  clear hE hG hS hok hB0 hx hzW hfn hf hwb
  go_enter Tryz.func36, Tryz.ntmps36
  go_wp2_with (first | (go_at_call 68; refine HIC.mono ?_; rintro e w1 ⟨rfl, hb⟩; obtain ⟨k0, kk, hbb, hzz⟩ := HC0.out w1 hb; have HB1 : Hid (Below (w.heap.size + 1) _ w1) := hb; have HB : Hid (Below w.heap.size w w1) := hbb; clear hb hbb kk) | (go_at_call 69; refine (HHA.out w1 HB.out).mono ?_; rintro e w2 ⟨ev, rfl, hf, hb⟩; obtain rfl := fault_nil hf; obtain ⟨_, kk, hbb2, _⟩ := HC0.out w2 (HB1.out.trans (hb.mono hzz)); have HB2 : Hid (Below w.heap.size w w2) := hbb2; clear hf hb k0 hbb2))
  go_region_held3 (fun w' => w'.cell? ⟨w.heap.size, 0, none⟩ = some (.int .i64 (a : Int)) ∧ w'.cell? ⟨w.heap.size, 1, none⟩ = some (.int .i64 (b : Int)) ∧ w'.cell? ⟨w.heap.size, 2, none⟩ = some (.int .i64 (c : Int))) (first | (exact kk) | (assumption) | (exact crS_next (by assumption) (by assumption)) | (exact crS_next (by assumption) ((Below.refl _ _).alloc (Nat.le_refl _) _)) | (exact crS_chg (by assumption) (by assumption) HNG.out)) (first | (go_at_call 54; refine (make_log _).mono ?_; rintro e wm ⟨sa, sa2, ka, ca, rfl, hTa, hba⟩) | (go_at_call 71; refine (HHD.out wm ?_).mono ?_; exact HB2.out.drew.trans (hba.mono HB2.out.size); rintro e wh ⟨g, cp, rfl, hrow, hgl, hbh⟩) | (go_at_call 55; refine (HAP.out wh g cp hrow).mono ?_; rintro e wa ⟨sb, sb2, kb, cb, rfl, hTb, hbb⟩) | (go_at_call 43; refine (sync_log wa).mono ?_; rintro e ws ⟨sc, sc2, kc, cc, rfl, hTc, hbc⟩) | (go_at_call 70; refine (create_call HE.out HG.out HS.out HOK.out hd HB2.out.drew hTa hba hbh (Nat.le_trans HB2.out.size (Nat.le_trans hba.size hgl)) hTb hbb hTc hbc).mono ?_; rintro e wo ⟨rfl, hdn, hchg⟩))
  all_goals
    go_wp2
    go_ret
    exact ⟨by rw [HA.out]; rfl, by rw [HA.out]; exact hdn⟩
end Go.Proofs.YtdhgebdbiehchaaGreatDoor
namespace Go.Proofs.YtdhgebdbiehchaaGreatDoor
open Go.RowKit Go.Maps
set_option linter.unusedVariables false

theorem create_any (E : Sent) (n : Nat) (G : Nat → Prop) (bs : Nat) (d : Dk) (q : StP) (a b c : Int) (w : World) (hE : Env0 n w E) (hG : ∀ k, G k → n ≤ k ∧ k < w.heap.size) (hS : StoreAt w G bs d q) (hok : DkOk d) :
    Calls Tryz.prog 36 #[.pointer (some ⟨bs, 0, none⟩), .agg #[.int .i64 a, .int .i64 b, .int .i64 c]] w fun e w' => e = .returned (.int .i64 (d.create a b c).1) ∧ Done E G bs w (d.create a b c).2 w' := by
  by_cases h : wellB a b c = false ∨ d.down = true ∨ d.f0.isSome = true
  · exact create_not E n G bs d q a b c w hE hS h
  · have hw : wellB a b c = true := by cases hh : wellB a b c; exact absurd (.inl hh) h; rfl
    have hd : d.down = false := by cases hh : d.down; rfl; exact absurd (.inr (.inl hh)) h
    have hf : d.f0.isSome = false := by cases hh : d.f0.isSome; rfl; exact absurd (.inr (.inr hh)) h
    have hwb := hw
    unfold wellB at hwb
    simp only [Bool.and_eq_true, decide_eq_true_eq] at hwb
    obtain ⟨a', rfl⟩ := Int.eq_ofNat_of_zero_le (show 0 ≤ a by omega)
    obtain ⟨b', rfl⟩ := Int.eq_ofNat_of_zero_le (show 0 ≤ b by omega)
    obtain ⟨c', rfl⟩ := Int.eq_ofNat_of_zero_le (show 0 ≤ c by omega)
    exact create_new E n G bs d q a' b' c' w hE hG hS hok hw hd hf
end Go.Proofs.YtdhgebdbiehchaaGreatDoor
