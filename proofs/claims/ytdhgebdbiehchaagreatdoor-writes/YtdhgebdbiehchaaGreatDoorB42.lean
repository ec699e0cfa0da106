/- The statement's does: what it keeps; both calls of a step, laid for the walks. The contracts of the document's store: falls, step. The contracts of the document's store: step, appends, syncs. The contracts of the document's store: syncs, makes, opens. The contracts of the document's store: Create, writes, Flush. -/
import Derived.Test.YtdhgebdbiehchaaGreatDoorB41
import Derived.Test.YtdhgebdbiehchaaGreatDoorB40
namespace Go.Proofs.YtdhgebdbiehchaaGreatDoor
open Go.RowKit Go.Maps
set_option linter.unusedSimpArgs false
set_option linter.unusedVariables false

/-- What is left when a disk was called: all is kept; the row of the disks has not turned. -/
def Left (E : Sent) (n bw : Nat) (m : Bool) (nd c : Nat) (Fr : Nat → Prop) (k10 : Prop) (pv : Value) (w w' : World) : Prop :=
  (∃ c', c' ≤ c + 1 ∧ (k10 → c' = c) ∧ Inv E n bw m nd c' Fr w') ∧ Chg (Mv n Fr) w w' ∧ w'.cell? ⟨bw, 0, none⟩ = w.cell? ⟨bw, 0, none⟩ ∧ ∀ g, pv.ownBlock = some g → w'.heap[g]? = w.heap[g]?
/-- A call of a disk is answered alike, and all is kept. -/
def Does (m : Bool) (o : OpV) : Prop := ∀ (E : Sent) (n bw nd c : Nat) (Fr : Nat → Prop) (w : World) (κ : Nat → Nat) (ds : List (Dk × Dk)) (P : LawP) (ls : List Mark) (j : Nat) (d : Dk) (p : Nat × Nat × Nat),
  LawAt w κ n bw ds P ls → Env0 n w E → (∀ d ∈ ds, d.1 = d.2 ∧ DkOk d.1) → (m = false → ls = []) → ds.length = nd → ls.length ≤ 4 * c → (∀ k, Fr k → κ k = 1 ∧ k < w.heap.size) → c ≤ 1353245081000 → ds[j]? = some (d, d) → P.ps[j]? = some p →
  Calls Tryz.prog 65 #[.pointer (some ⟨bw, 0, none⟩), .pointer (some ⟨p.1, 0, none⟩), o.val] w fun e w' => e = .returned (.bool true) ∧ Left E n bw m nd c Fr (o.kind = 10) P.pv w w'
def opC (o : OpV) : Array Value := #[.int .i64 o.kind, .int .i64 o.at', .int .i64 o.x, .int .i64 o.y, .string o.s, .string o.t, .string o.u, .int .i64 o.c0, .int .i64 o.c1, .int .i64 o.c2]
/-- What the walk of does reads: the pair's two pointers, the step's cells. -/
def dS (pb px py ob : Nat) (x y : Int) (s t : ByteArray) (c0 c1 c2 : Int) (w' : World) : Prop :=
  (w'.cell? ⟨pb, 0, none⟩ = some (.pointer (some ⟨px, 0, none⟩)) ∧ w'.cell? ⟨pb, 1, none⟩ = some (.pointer (some ⟨py, 0, none⟩))) ∧ (w'.cell? ⟨ob, 2, none⟩ = some (.int .i64 x) ∧ w'.cell? ⟨ob, 3, none⟩ = some (.int .i64 y)) ∧ (w'.cell? ⟨ob, 4, none⟩ = some (.string s) ∧ w'.cell? ⟨ob, 5, none⟩ = some (.string t)) ∧ (w'.cell? ⟨ob, 7, none⟩ = some (.int .i64 c0) ∧ w'.cell? ⟨ob, 8, none⟩ = some (.int .i64 c1) ∧ w'.cell? ⟨ob, 9, none⟩ = some (.int .i64 c2))
theorem dS_of {w' : World} {pb px py ob : Nat} {o : OpV} (h1 : Bx w' pb #[.pointer (some ⟨px, 0, none⟩), .pointer (some ⟨py, 0, none⟩)] 198) (h2 : Bx w' ob (opC o) 68) : dS pb px py ob o.x o.y o.s o.t o.c0 o.c1 o.c2 w' :=
  ⟨⟨h1.cell (j := 0) rfl, h1.cell (j := 1) rfl⟩, ⟨h2.cell (j := 2) rfl, h2.cell (j := 3) rfl⟩, ⟨h2.cell (j := 4) rfl, h2.cell (j := 5) rfl⟩, h2.cell (j := 7) rfl, h2.cell (j := 8) rfl, h2.cell (j := 9) rfl⟩
/-- Both calls, laid for the walk of does. -/
theorem does_two {E : Sent} {n bw nd c : Nat} {m : Bool} {Fr : Nat → Prop} {w : World} {κ : Nat → Nat} {ds : List (Dk × Dk)} {P : LawP} {ls : List Mark} (o : OpV)
    (h1 : LawAt w κ n bw ds P ls) (h2 : Env0 n w E) (h3 : ∀ d ∈ ds, d.1 = d.2 ∧ DkOk d.1) (h4 : m = false → ls = []) (h5 : ds.length = nd) (h6 : ls.length ≤ 4 * c) (h7 : ∀ k, Fr k → κ k = 1 ∧ k < w.heap.size)
    {j : Nat} {d d' : Dk} {p : Nat × Nat × Nat} (hd : ds[j]? = some (d, d)) (hp : P.ps[j]? = some p) (hok' : DkOk d') (fx fy : Nat) (ax ay : Array Value) (code : Int)
    (HX : ∀ (w1 : World) (G : Nat → Prop) (q : StP), Env0 n w1 E → (∀ k, G k → n ≤ k ∧ k < w1.heap.size) → StoreAt w1 G p.2.1 d q → Calls Tryz.prog fx ax w1 fun e w' => e = .returned (.int .i64 code) ∧ Done E G p.2.1 w1 d' w')
    (HY : ∀ (w1 : World) (G : Nat → Prop) (q : RfP), (∀ k, G k → k < w1.heap.size) → RefAt w1 G p.2.2 d q → Calls Tryz.prog fy ay w1 fun e w' => e = .returned (.int .i64 code) ∧ RDone G p.2.2 w1 d' w') :
    ∃ XD : World → Prop, dS p.1 p.2.1 p.2.2 w.heap.size o.x o.y o.s o.t o.c0 o.c1 o.c2 (w.alloc (.cells (opC o) 68)) ∧
      (∀ w1 : World, Below (w.alloc (.cells (opC o) 68)).heap.size (w.alloc (.cells (opC o) 68)) w1 → Calls Tryz.prog fx ax w1 fun e w2 => e = .returned (.int .i64 code) ∧ XD w2) ∧
      (∀ w2 : World, XD w2 → dS p.1 p.2.1 p.2.2 w.heap.size o.x o.y o.s o.t o.c0 o.c1 o.c2 w2 ∧ ∀ w3 : World, Below w2.heap.size w2 w3 → Calls Tryz.prog fy ay w3 fun e w' => e = .returned (.int .i64 code) ∧ dS p.1 p.2.1 p.2.2 w.heap.size o.x o.y o.s o.t o.c0 o.c1 o.c2 w' ∧ Left E n bw m nd c Fr (o.kind = 10) P.pv w w') := by
  obtain ⟨XD, hX, hY⟩ := law_two h1 h2 h3 h4 h5 h6 h7 hd hp hok' fx fy ax ay code HX HY
  have hpr := h1.pairs j _ p hd hp
  have hB0 : Below w.heap.size w (w.alloc (.cells (opC o) 68)) := (Below.refl _ _).alloc (Nat.le_refl _) _
  have hz0 : (w.alloc (.cells (opC o) 68)).heap.size = w.heap.size + 1 := by simp
  refine ⟨fun w2 => ∃ w1, Below (w.alloc (.cells (opC o) 68)).heap.size (w.alloc (.cells (opC o) 68)) w1 ∧ XD w1 w2, ?_, ?_, ?_⟩
  · exact dS_of (hpr.box.below hB0 hpr.box.lt) (bx_new _ _ _ rfl)
  · intro w1 hb
    refine (hX w1 (hB0.trans (hb.mono (by omega)))).mono ?_
    rintro e w2 ⟨rfl, hx⟩
    exact ⟨rfl, w1, hb, hx⟩
  · rintro w2 ⟨w1, hb, hx⟩
    obtain ⟨k1, k2, k3, k4⟩ := hY w1 w2 hx
    have hz1 := hb.size
    have ho1 : Bx w1 w.heap.size (opC o) 68 := (bx_new w (opC o) _ rfl).below hb (by omega)
    refine ⟨dS_of k2 ((k1 _ (Nat.le_refl _) (by omega)).trans ho1), fun w3 hb3 => (k4 w3 hb3).mono ?_⟩
    rintro e w' ⟨rfl, a1, a2, a3, a4⟩
    refine ⟨rfl, dS_of ((a3 _ hpr.col).trans hpr.box) ((a4 _ (Nat.le_refl _) (by omega)).trans ho1), ⟨c, by omega, fun _ => rfl, a1⟩, a2, ?_, fun g hg => a3 g (h1.crow g hg)⟩
    unfold World.cell?
    rw [a3 _ h1.col]
end Go.Proofs.YtdhgebdbiehchaaGreatDoor
namespace Go.Proofs.YtdhgebdbiehchaaGreatDoor
open Go.RowKit Go.Maps
set_option linter.unusedSimpArgs false
set_option linter.unusedVariables false

def nilP (q : RfP) : RfP := ⟨q.keep, q.c0, q.c1, q.c2, .slice none 0 0⟩
theorem fall_cells {W : World} {b : Nat} {d : Dk} {k i : Nat} {q : RfP} (h : Bx W b (refC (fallK d k i) q) 273) (hi : i < 3) :
    W.cell? ⟨b, 2 + i * 3 + 1, none⟩ = some (.string (S (txtO (d.file i)))) ∧ W.cell? ⟨b, 2 + i * 3 + 2, none⟩ = some (.int .i64 (synO (d.file i) : Int)) ∧ W.cell? ⟨b, 12, none⟩ = some (.int .i64 (q.keep : Int)) := by
  match i, hi with
  | 0, _ => exact ⟨h.cell (j := 3) rfl, h.cell (j := 4) rfl, h.cell (j := 12) rfl⟩
  | 1, _ => exact ⟨h.cell (j := 6) rfl, h.cell (j := 7) rfl, h.cell (j := 12) rfl⟩
  | 2, _ => exact ⟨h.cell (j := 9) rfl, h.cell (j := 10) rfl, h.cell (j := 12) rfl⟩
theorem fall_zero {W : World} {b : Nat} {d : Dk} {q : RfP} (h : Bx W b (refC d q) 273) (k : Nat) :
    Bx ((((W.setCell ⟨b, 1, none⟩ (.bool true)).setCell ⟨b, 11, none⟩ (.int .i64 (-1))).setCell ⟨b, 13, none⟩ (.bool false)).setCell ⟨b, 17, none⟩ (.slice none 0 0)) b (refC (fallK d k 0) (nilP q)) 273 :=
  (((h.setj 1 _).setj 11 _).setj 13 _).setj 17 _
theorem txt_le {d : Dk} (hok : DkOk d) (i : Nat) : (txtO (d.file i)).length ≤ 100000 := by
  have h1 := hok.used
  have h2 := hok.room
  have e : ∀ f : Option Fl, (txtO f).length = lenF f := fun f => by cases f <;> rfl
  rw [e]
  unfold Dk.used at h1
  unfold Dk.file
  split
  · omega
  · split
    · omega
    · split
      · omega
      · simp [lenF]
set_option maxRecDepth 100000 in
set_option maxHeartbeats 1600000 in
theorem falls_any (G : Nat → Prop) (b : Nat) (d : Dk) (q : RfP) (w : World) (hR : RefAt w G b d q) (hok : DkOk d) :
    Calls Tryz.prog 177 #[.pointer (some ⟨b, 0, none⟩)] w fun e w' => e = .returned (.tuple #[]) ∧ RDone G b w (d.falls q.keep) w' := by
  have f1 := hR.box.frozen 1
  have f11 := hR.box.frozen 11
  have f13 := hR.box.frozen 13
  have f17 := hR.box.frozen 17
  have c1 := hR.box.cell (j := 1) rfl
  have c11 := hR.box.cell (j := 11) rfl
  have c13 := hR.box.cell (j := 13) rfl
  have c17 := hR.box.cell (j := 17) rfl
  have HZ := fall_zero hR.box q.keep
  have hlt := hR.box.lt
  have hkp := hR.keep
  have hsy := hok.sync
  have HTL : Hid (∀ i, (txtO (d.file i)).length ≤ 100000) := txt_le hok
  have HR : Hid (RefAt w G b d q) := hR
  have HSY : Hid (∀ i f, d.file i = some f → f.sync ≤ f.text.length) := hsy
  clear hR hok hsy
  go_enter Tryz.func177, Tryz.ntmps177
  go_wp2
  go_loopw [2] (fun i wr => ∃ (k : Nat), k ≤ 3 ∧ i = .int .i64 k ∧ Bx wr b (refC (fallK d q.keep k) (nilP q)) 273 ∧ w.grownBy wr (some b)) (fun i _ => 3 - (intOf i).toNat)
  case atStart => exact ⟨0, by omega, rfl, HZ, grown_trans (grown_trans (grown_trans (grown_setB w b 1 _) (grown_setB _ b 11 _)) (grown_setB _ b 13 _)) (grown_setB _ b 17 _)⟩
  case round =>
    obtain ⟨k, hk, rfl, hbx, hg⟩ := hrel
    by_cases hlt3 : k < 3
    · obtain ⟨ct, cs, ck⟩ := fall_cells hbx hlt3
      have ft := hbx.frozen (2 + k * 3 + 1)
      have fs := hbx.frozen (2 + k * 3 + 2)
      have HN : Hid (Bx ((wr.setCell ⟨b, 2 + k * 3 + 1, none⟩ (.string (S ((txtO (d.file k)).take (fallN q.keep (d.file k)))))).setCell ⟨b, 2 + k * 3 + 2, none⟩ (.int .i64 (fallN q.keep (d.file k) : Int))) b (refC (fallK d q.keep (k + 1)) (nilP q)) 273) := by
        have := fall_box hbx hlt3 HSY.out
        rw [Nat.mul_comm 3 k] at this
        exact this
      have hle := fallN_le q.keep (d.file k) (fun g hg => HSY.out k g hg)
      have htl := HTL.out k
      have hNd : fallN q.keep (d.file k) = synO (d.file k) + min q.keep ((txtO (d.file k)).length - synO (d.file k)) := rfl
      have hsl : synO (d.file k) ≤ (txtO (d.file k)).length := by
        cases hf : d.file k with
        | none => exact Nat.le_refl _
        | some f => exact HSY.out k f hf
      have HG : Hid (w.grownBy wr (some b)) := hg
      have ck' : wr.cell? ⟨b, 12, none⟩ = some (.int .i64 (q.keep : Int)) := ck
      clear ck hbx hg HZ c1 c11 c13 c17 f1 f11 f13 f17
      generalize txtO (d.file k) = T at *
      generalize synO (d.file k) = Y at *
      generalize fallN q.keep (d.file k) = N at *
      have hsz : (S T).size = T.length := S_size T
      have HC : ∀ wx : World, (Instr.slice 9 (.string (S T)) none (some (.int .i64 (N : Int))) none).run Tryz.prog wx = .ok (.string (S (T.take N))) wx := by
        intro wx
        have := cut_upto (S T) N (by rw [hsz]; exact hle) (N : Int) rfl wx
        rw [show (S T).data.toList = T from rfl] at this
        exact this
      generalize q.keep = K at *
      by_cases hcase : K < T.length - Y
      · have e1 : ((Y : Int) + (K : Int)) = (N : Int) := by omega
        have e0 : (K : Int) < (T.length : Int) - (Y : Int) := by omega
        clear hNd
        go_wp2_with fail
        go_region
        all_goals
          go_wp2_with fail
          go_region
          all_goals
            go_wp2_with fail
            go_region
            all_goals
              go_wp2
              go_roundw
              case rel => exact ⟨k + 1, by omega, by go_num, HN.out, grown_drew (grown_drew (grown_drew (grown_trans (grown_trans HG.out (grown_setB _ b _ _)) (grown_setB _ b _ _))))⟩
              case measure => simp [intOf]; omega
      · have e1 : N = T.length := by omega
        have e0 : ¬ ((K : Int) < (T.length : Int) - (Y : Int)) := by omega
        clear hNd
        subst e1
        have HN2 : Hid (Bx ((wr.setCell ⟨b, 2 + k * 3 + 1, none⟩ (.string (S T))).setCell ⟨b, 2 + k * 3 + 2, none⟩ (.int .i64 (T.length : Int))) b (refC (fallK d K (k + 1)) (nilP q)) 273) := by
          have := HN.out
          rw [List.take_length] at this
          exact this
        go_wp2_with fail
        go_region
        all_goals
          go_wp2_with fail
          go_region
          all_goals
            go_wp2
            go_roundw
            case rel => exact ⟨k + 1, by omega, by go_num, HN2.out, grown_drew (grown_drew (grown_trans (grown_trans HG.out (grown_setB _ b _ _)) (grown_setB _ b _ _)))⟩
            case measure => simp [intOf]; omega
    · have e : k = 3 := by omega
      subst e
      go_wp2
      refine bodyPost_end (v := .tuple #[]) ?_ rfl ⟨rfl, ⟨nilP q, ?_⟩, chg_one hg HR.out.gb⟩
      · simp [results, Tryz.results177, go_sem]
      · exact ⟨hbx, World.ownsRow_nil _ _ _ _, fun e => (by cases e), fun n k e => (by cases e), hkp, fun blk e => (by cases e), .inl HR.out.gb, fun g e => (by cases e)⟩
end Go.Proofs.YtdhgebdbiehchaaGreatDoor
namespace Go.Proofs.YtdhgebdbiehchaaGreatDoor
open Go.RowKit Go.Maps
set_option linter.unusedSimpArgs false
set_option linter.unusedVariables false

theorem RefAt.lefted {W : World} {G : Nat → Prop} {b : Nat} {d : Dk} {q : RfP} {n k : Nat} (h : RefAt W G b d q) (hn : n ≤ 9223372036854775807) (hk : q.keep = k) : RefAt (W.setCell ⟨b, 11, none⟩ (.int .i64 (n : Int))) G b { d with left := some (n, k) } q :=
  ⟨h.box.setj 11 _, own_box (cs := refC d q) (t := 0) h.row h.ne 11 _, h.ne, fun n' k' e => by cases e; exact ⟨hn, hk⟩, h.keep, h.blk, h.gb, h.gv⟩
set_option maxRecDepth 100000 in
set_option maxHeartbeats 800000 in
theorem rstep_any (G : Nat → Prop) (b : Nat) (d : Dk) (q : RfP) (w : World) (hR : RefAt w G b d q) (hok : DkOk d) :
    Calls Tryz.prog 176 #[.pointer (some ⟨b, 0, none⟩)] w fun e w' => e = .returned (.bool d.count.1) ∧ RDone G b w d.count.2 w' := by
  have c11 : w.cell? ⟨b, 11, none⟩ = some (.int .i64 (leftI d.left)) := hR.box.cell (j := 11) rfl
  have f11 := hR.box.frozen 11
  have HR : Hid (RefAt w G b d q) := hR
  have hL := hR.left
  have HF := falls_any G b d q w hR hok
  clear hR hok
  cases hl : d.left with
  | none =>
    have HC : Hid (d.count = (true, d)) := by show _ = _; unfold Dk.count; rw [hl]
    rw [hl] at c11
    have c11' : w.cell? ⟨b, 11, none⟩ = some (.int .i64 (-1)) := c11
    clear c11 HF hL
    go_enter Tryz.func176, Tryz.ntmps176
    go_wp2
    go_ret
    exact ⟨by rw [HC.out]; rfl, by rw [HC.out]; exact RDone.refl HR.out⟩
  | some p =>
    obtain ⟨n, k⟩ := p
    obtain ⟨hn, hk⟩ := hL n k hl
    rw [hl] at c11
    cases n with
    | zero =>
      have HC : Hid (d.count = (false, d.falls k)) := by show _ = _; unfold Dk.count; rw [hl]
      have c11' : w.cell? ⟨b, 11, none⟩ = some (.int .i64 0) := c11
      rw [hk] at HF
      clear c11 hL
      go_enter Tryz.func176, Tryz.ntmps176
      go_wp2_with (first | (go_at_call 177; refine HF.mono ?_; rintro e w1 ⟨rfl, hd⟩; have HD : Hid (RDone G b w (d.falls k) w1) := hd; clear hd))
      go_ret
      exact ⟨by rw [HC.out]; rfl, by rw [HC.out]; exact HD.out⟩
    | succ m =>
      have HC : Hid (d.count = (true, { d with left := some (m, k) })) := by show _ = _; unfold Dk.count; rw [hl]
      have c11' : w.cell? ⟨b, 11, none⟩ = some (.int .i64 ((m : Int) + 1)) := c11
      have HN : Hid (RefAt (w.setCell ⟨b, 11, none⟩ (.int .i64 (m : Int))) G b { d with left := some (m, k) } q) := HR.out.lefted (by omega) hk
      have e1 : (m : Int) + 1 - 1 = m := by omega
      clear c11 hL HF
      go_enter Tryz.func176, Tryz.ntmps176
      go_wp2
      go_ret
      refine ⟨by rw [HC.out]; rfl, ?_⟩
      rw [HC.out]
      have HN2 := HN.out
      exact ⟨⟨q, HN2.mono (fun k hk => .inl hk)⟩, chg_one (grown_setB _ _ _ _) HR.out.gb⟩

/-! One file turns. -/
theorem file_cells {W : World} {b : Nat} {d : Dk} {i : Nat} {q : RfP} (h : Bx W b (refC d q) 273) (hi : i < 3) :
    W.cell? ⟨b, 2 + i * 3, none⟩ = some (.bool (d.file i).isSome) ∧ W.cell? ⟨b, 2 + i * 3 + 1, none⟩ = some (.string (S (txtO (d.file i)))) ∧ W.cell? ⟨b, 2 + i * 3 + 2, none⟩ = some (.int .i64 (synO (d.file i) : Int)) := by
  match i, hi with
  | 0, _ => exact ⟨h.cell (j := 2) rfl, h.cell (j := 3) rfl, h.cell (j := 4) rfl⟩
  | 1, _ => exact ⟨h.cell (j := 5) rfl, h.cell (j := 6) rfl, h.cell (j := 7) rfl⟩
  | 2, _ => exact ⟨h.cell (j := 8) rfl, h.cell (j := 9) rfl, h.cell (j := 10) rfl⟩
theorem refC_put1 {d : Dk} {q : RfP} {i : Nat} {f : Fl} (hi : i < 3) (hf : d.file i = some f) (t : List UInt8) : (refC d q).setIfInBounds (2 + i * 3 + 1) (.string (S t)) = refC (d.put i (some ⟨t, f.sync⟩)) q := by
  match i, hi with
  | 0, _ => have h : d.f0 = some f := hf; simp [refC, Dk.put, h, synO, txtO]
  | 1, _ => have h : d.f1 = some f := hf; simp [refC, Dk.put, h, synO, txtO]
  | 2, _ => have h : d.f2 = some f := hf; simp [refC, Dk.put, h, synO, txtO]
theorem refC_put2 {d : Dk} {q : RfP} {i : Nat} {f : Fl} (hi : i < 3) (hf : d.file i = some f) (n : Nat) : (refC d q).setIfInBounds (2 + i * 3 + 2) (.int .i64 (n : Int)) = refC (d.put i (some ⟨f.text, n⟩)) q := by
  match i, hi with
  | 0, _ => have h : d.f0 = some f := hf; simp [refC, Dk.put, h, synO, txtO]
  | 1, _ => have h : d.f1 = some f := hf; simp [refC, Dk.put, h, synO, txtO]
  | 2, _ => have h : d.f2 = some f := hf; simp [refC, Dk.put, h, synO, txtO]
theorem refC_put3 {d : Dk} {q : RfP} {i : Nat} (hi : i < 3) : (((refC d q).setIfInBounds (2 + i * 3) (.bool true)).setIfInBounds (2 + i * 3 + 1) (.string ⟨#[]⟩)).setIfInBounds (2 + i * 3 + 2) (.int .i64 0) = refC (d.put i (some ⟨[], 0⟩)) q := by
  match i, hi with
  | 0, _ => rfl
  | 1, _ => rfl
  | 2, _ => rfl
theorem RefAt.file {W W' : World} {G : Nat → Prop} {b : Nat} {d : Dk} {q : RfP} {i : Nat} {f : Option Fl} (h : RefAt W G b d q) (hb : Bx W' b (refC (d.put i f) q) 273) (hg : W.grownBy W' (some b)) : RefAt W' G b (d.put i f) q := by
  obtain ⟨p1, p2, p3, p4, p5⟩ := put_same d i f
  refine ⟨hb, ?_, h.ne, by rw [p3]; exact h.left, h.keep, by rw [p4]; exact h.blk, h.gb, h.gv⟩
  rw [p5]
  exact own_chg h.row (chg_one (F := fun k => k = b) hg rfl) (fun g e hk => h.ne (by rw [e, hk]))
theorem RefAt.text {W : World} {G : Nat → Prop} {b : Nat} {d : Dk} {q : RfP} {i : Nat} {f : Fl} (h : RefAt W G b d q) (hi : i < 3) (hf : d.file i = some f) (t : List UInt8) : RefAt (W.setCell ⟨b, 2 + i * 3 + 1, none⟩ (.string (S t))) G b (d.put i (some ⟨t, f.sync⟩)) q :=
  h.file (by have := h.box.setj (2 + i * 3 + 1) (.string (S t)); rw [refC_put1 hi hf] at this; exact this) (grown_setB _ _ _ _)
theorem RefAt.synced {W : World} {G : Nat → Prop} {b : Nat} {d : Dk} {q : RfP} {i : Nat} {f : Fl} (h : RefAt W G b d q) (hi : i < 3) (hf : d.file i = some f) (n : Nat) : RefAt (W.setCell ⟨b, 2 + i * 3 + 2, none⟩ (.int .i64 (n : Int))) G b (d.put i (some ⟨f.text, n⟩)) q :=
  h.file (by have := h.box.setj (2 + i * 3 + 2) (.int .i64 (n : Int)); rw [refC_put2 hi hf] at this; exact this) (grown_setB _ _ _ _)
theorem RefAt.made {W : World} {G : Nat → Prop} {b : Nat} {d : Dk} {q : RfP} {i : Nat} (h : RefAt W G b d q) (hi : i < 3) : RefAt (((W.setCell ⟨b, 2 + i * 3, none⟩ (.bool true)).setCell ⟨b, 2 + i * 3 + 1, none⟩ (.string ⟨#[]⟩)).setCell ⟨b, 2 + i * 3 + 2, none⟩ (.int .i64 0)) G b (d.put i (some ⟨[], 0⟩)) q :=
  h.file (by have := ((h.box.setj (2 + i * 3) (.bool true)).setj (2 + i * 3 + 1) (.string ⟨#[]⟩)).setj (2 + i * 3 + 2) (.int .i64 0); rw [refC_put3 hi] at this; exact this) (grown_trans (grown_trans (grown_setB _ _ _ _) (grown_setB _ _ _ _)) (grown_setB _ _ _ _))
theorem count_file {d d' : Dk} (h : d.count = (true, d')) (i : Nat) : d'.file i = d.file i := by
  rw [count_ok h]; rfl
theorem RDone.at {G : Nat → Prop} {b : Nat} {w w1 : World} {d' d2 : Dk} {q : RfP} {w2 : World} (h : RDone G b w d' w1) (h2 : RefAt w2 (Fx G w w1) b d2 q) (hg : w1.grownBy w2 (some b)) (hb : G b) (hs : w2.heap.size = w1.heap.size) : RDone G b w d2 w2 := by
  refine ⟨⟨q, h2.mono ?_⟩, h.2.grown hg (fun k e => by cases e; exact .inl hb)⟩
  rintro k (hk | hk)
  · exact .inl hk
  · exact .inr ⟨hk.1, by omega⟩
theorem used_txt (d : Dk) : d.used = (txtO d.f0).length + (txtO d.f1).length + (txtO d.f2).length := by
  have e : ∀ f : Option Fl, (txtO f).length = lenF f := fun f => by cases f <;> rfl
  rw [e, e, e]; rfl
set_option maxRecDepth 100000 in
set_option maxHeartbeats 1600000 in
theorem appends_any (G : Nat → Prop) (b : Nat) (d : Dk) (q : RfP) (i : Nat) (t : List UInt8) (w : World) (hR : RefAt w G b d q) (hok : DkOk d) (hi : i < 3) (hf : (d.file i).isSome = true) (ht : t.length ≤ 1000000) :
    Calls Tryz.prog 199 #[.pointer (some ⟨b, 0, none⟩), .int .i64 (i : Int), .string (S t)] w fun e w' => e = .returned (.int .i64 (d.one (stAppend i t)).1) ∧ RDone G b w (d.one (stAppend i t)).2 w' := by
  have HST := rstep_any G b d q w hR hok
  have hgb := hR.gb
  have hok' := hok.count
  obtain ⟨bb, d', hct⟩ : ∃ b d', d.count = (b, d') := ⟨_, _, rfl⟩
  rw [hct] at HST hok'
  change DkOk d' at hok'
  cases bb with
  | false =>
    have HE := one_no (st := stAppend i t) hct
    clear hR hok hct hok'
    go_enter Tryz.func199, Tryz.ntmps199
    go_wp2_with (first | (go_at_call 176; refine HST.mono ?_; rintro e w1 ⟨rfl, hd⟩; have HD : Hid (RDone G b w d' w1) := hd; clear hd))
    go_ret
    exact ⟨by rw [HE]; rfl, by rw [HE]; exact HD.out⟩
  | true =>
    have HE := one_yes (st := stAppend i t) hct
    have hfi := count_file hct i
    rw [← hfi] at hf
    obtain ⟨f, hf'⟩ : ∃ f, d'.file i = some f := Option.isSome_iff_exists.1 hf
    have hu := used_txt d'
    have hu2 := hok'.used
    have hu3 := hok'.room
    have HT0 := txt_le hok' i
    have ht1 : txtO (d'.file i) = f.text := by rw [hf']; rfl
    have HCL : Hid (∀ (w1 : World) (q' : RfP), RefAt w1 (Fx G w w1) b d' q' → (w1.cell? ⟨b, 0, none⟩ = some (.int .i64 (d'.room : Int)) ∧ w1.cell? ⟨b, 3, none⟩ = some (.string (S (txtO d'.f0))) ∧ w1.cell? ⟨b, 6, none⟩ = some (.string (S (txtO d'.f1))) ∧ w1.cell? ⟨b, 9, none⟩ = some (.string (S (txtO d'.f2))) ∧ w1.cell? ⟨b, 2 + i * 3 + 1, none⟩ = some (.string (S f.text)) ∧ w1.frozen? ⟨b, 2 + i * 3 + 1, none⟩ = false)) := fun w1 q' h => by
      have h1 := (file_cells h.box hi).2.1
      rw [ht1] at h1
      exact ⟨h.box.cell (j := 0) rfl, h.box.cell (j := 3) rfl, h.box.cell (j := 6) rfl, h.box.cell (j := 9) rfl, h1, h.box.frozen _⟩
    rw [ht1] at HT0
    have b0 : (txtO d'.f0).length ≤ 100000 := txt_le hok' 0
    have b1 : (txtO d'.f1).length ≤ 100000 := txt_le hok' 1
    have b2 : (txtO d'.f2).length ≤ 100000 := txt_le hok' 2
    have z0 : (S (txtO d'.f0)).size = (txtO d'.f0).length := S_size _
    have z1 : (S (txtO d'.f1)).size = (txtO d'.f1).length := S_size _
    have z2 : (S (txtO d'.f2)).size = (txtO d'.f2).length := S_size _
    have z3 : (S t).size = t.length := S_size _
    have z4 : (S f.text).size = f.text.length := S_size _
    by_cases hroom : d'.room < d'.used + t.length
    · have HE2 : Hid (d.one (stAppend i t) = (6, d')) := by
        show d.one (stAppend i t) = (6, d')
        rw [HE]; unfold Dk.take
        rw [if_neg (by simp [stAppend]), show (stAppend i t).i = i from rfl, hf']
        show (if (1 : Nat) = 1 then (if d'.room < d'.used + t.length then ((6 : Int), d') else (0, d'.put i (some ⟨f.text ++ t, f.sync⟩))) else _) = _
        rw [if_pos rfl, if_pos hroom]
      have hr2 : (d'.room : Int) < ((txtO d'.f0).length : Int) + ((txtO d'.f1).length : Int) + ((txtO d'.f2).length : Int) + (t.length : Int) := by omega
      clear hR hok hct hok' HE hu hroom hfi hf
      generalize txtO d'.f0 = t0 at *
      generalize txtO d'.f1 = t1 at *
      generalize txtO d'.f2 = t2 at *
      go_enter Tryz.func199, Tryz.ntmps199
      go_wp2_with (first | (go_at_call 176; refine HST.mono ?_; rintro e w1 ⟨rfl, hd⟩; have HD : Hid (RDone G b w d' w1) := hd; obtain ⟨⟨q', hq'⟩, hc'⟩ := hd; obtain ⟨k0, k3, k6, k9, ki, kf⟩ := HCL.out w1 q' hq'; clear hq' hc'))
      go_region
      all_goals
        go_wp2
        go_ret
        exact ⟨by rw [HE2.out]; rfl, by rw [HE2.out]; exact HD.out.below (Below.refl _ _).drew⟩
    · have HE2 : Hid (d.one (stAppend i t) = (0, d'.put i (some ⟨f.text ++ t, f.sync⟩))) := by
        show d.one (stAppend i t) = (0, d'.put i (some ⟨f.text ++ t, f.sync⟩))
        rw [HE]; unfold Dk.take
        rw [if_neg (by simp [stAppend]), show (stAppend i t).i = i from rfl, hf']
        show (if (1 : Nat) = 1 then (if d'.room < d'.used + t.length then ((6 : Int), d') else (0, d'.put i (some ⟨f.text ++ t, f.sync⟩))) else _) = _
        rw [if_pos rfl, if_neg hroom]
      have hr2 : ¬ (d'.room : Int) < ((txtO d'.f0).length : Int) + ((txtO d'.f1).length : Int) + ((txtO d'.f2).length : Int) + (t.length : Int) := by omega
      have HPT : Hid (∀ (w1 : World) (q' : RfP), RefAt w1 (Fx G w w1) b d' q' → RefAt (w1.setCell ⟨b, 2 + i * 3 + 1, none⟩ (.string (S (f.text ++ t)))) (Fx G w w1) b (d'.put i (some ⟨f.text ++ t, f.sync⟩)) q') := fun w1 q' h => h.text hi hf' _
      have ht2 : t.length ≤ 100000 := by omega
      clear hR hok hct hok' HE hu hroom hfi hf ht1 hf'
      generalize txtO d'.f0 = t0 at *
      generalize txtO d'.f1 = t1 at *
      generalize txtO d'.f2 = t2 at *
      generalize f.text = ft at *
      go_enter Tryz.func199, Tryz.ntmps199
      go_wp2_with (first | (go_at_call 176; refine HST.mono ?_; rintro e w1 ⟨rfl, hd⟩; have HD : Hid (RDone G b w d' w1) := hd; obtain ⟨⟨q', hq'⟩, hc'⟩ := hd; obtain ⟨k0, k3, k6, k9, ki, kf⟩ := HCL.out w1 q' hq'; have HQ := HPT.out w1 q' hq'; clear hq' hc'))
      go_region
      all_goals
        go_wp2_with fail
        go_region
        all_goals
          go_wp2
          go_ret
          refine ⟨by rw [HE2.out]; rfl, ?_⟩
          rw [HE2.out, S_append]
          exact (HD.out.at HQ (grown_setB _ _ _ _) hgb (by simp)).below (Below.refl _ _).drew.drew
end Go.Proofs.YtdhgebdbiehchaaGreatDoor
namespace Go.Proofs.YtdhgebdbiehchaaGreatDoor
open Go.RowKit Go.Maps
set_option linter.unusedSimpArgs false
set_option linter.unusedVariables false

set_option maxRecDepth 100000 in
set_option maxHeartbeats 1600000 in
theorem syncs_any (G : Nat → Prop) (b : Nat) (d : Dk) (q : RfP) (i : Nat) (w : World) (hR : RefAt w G b d q) (hok : DkOk d) (hi : i < 3) (hf : (d.file i).isSome = true) :
    Calls Tryz.prog 175 #[.pointer (some ⟨b, 0, none⟩), .int .i64 (i : Int)] w fun e w' => e = .returned (.int .i64 (d.one (stSync i)).1) ∧ RDone G b w (d.one (stSync i)).2 w' := by
  have HST := rstep_any G b d q w hR hok
  have hgb := hR.gb
  have hok' := hok.count
  obtain ⟨bb, d', hct⟩ : ∃ b d', d.count = (b, d') := ⟨_, _, rfl⟩
  rw [hct] at HST hok'
  change DkOk d' at hok'
  cases bb with
  | false =>
    have HE := one_no (st := stSync i) hct
    clear hR hok hct hok'
    go_enter Tryz.func175, Tryz.ntmps175
    go_wp2_with (first | (go_at_call 176; refine HST.mono ?_; rintro e w1 ⟨rfl, hd⟩; have HD : Hid (RDone G b w d' w1) := hd; clear hd))
    go_ret
    exact ⟨by rw [HE]; rfl, by rw [HE]; exact HD.out⟩
  | true =>
    have HE := one_yes (st := stSync i) hct
    have hfi := count_file hct i
    rw [← hfi] at hf
    obtain ⟨f, hf'⟩ : ∃ f, d'.file i = some f := Option.isSome_iff_exists.1 hf
    have ht1 : txtO (d'.file i) = f.text := by rw [hf']; rfl
    have HCL : Hid (∀ (w1 : World) (q' : RfP), RefAt w1 (Fx G w w1) b d' q' → (w1.cell? ⟨b, 2 + i * 3 + 1, none⟩ = some (.string (S f.text)) ∧ w1.cell? ⟨b, 2 + i * 3 + 2, none⟩ = some (.int .i64 (synO (d'.file i) : Int)) ∧ w1.frozen? ⟨b, 2 + i * 3 + 2, none⟩ = false)) := fun w1 q' h => by
      have h1 := (file_cells h.box hi).2
      rw [ht1] at h1
      exact ⟨h1.1, h1.2, h.box.frozen _⟩
    have z4 : (S f.text).size = f.text.length := S_size _
    have HE2 : Hid (d.one (stSync i) = (0, d'.put i (some ⟨f.text, f.text.length⟩))) := by
      show d.one (stSync i) = (0, d'.put i (some ⟨f.text, f.text.length⟩))
      rw [HE]; unfold Dk.take
      rw [if_neg (by simp [stSync]), show (stSync i).i = i from rfl, hf']
      rfl
    have HPT : Hid (∀ (w1 : World) (q' : RfP), RefAt w1 (Fx G w w1) b d' q' → RefAt (w1.setCell ⟨b, 2 + i * 3 + 2, none⟩ (.int .i64 (f.text.length : Int))) (Fx G w w1) b (d'.put i (some ⟨f.text, f.text.length⟩)) q') := fun w1 q' h => h.synced hi hf' _
    clear hR hok hct hok' HE hfi hf ht1 hf'
    generalize synO (d'.file i) = Y at *
    generalize f.text = ft at *
    go_enter Tryz.func175, Tryz.ntmps175
    go_wp2_with (first | (go_at_call 176; refine HST.mono ?_; rintro e w1 ⟨rfl, hd⟩; have HD : Hid (RDone G b w d' w1) := hd; obtain ⟨⟨q', hq'⟩, hc'⟩ := hd; obtain ⟨k0, k1, kf⟩ := HCL.out w1 q' hq'; have HQ := HPT.out w1 q' hq'; clear hq' hc'))
    go_region
    all_goals
      go_wp2
      go_ret
      refine ⟨by rw [HE2.out]; rfl, ?_⟩
      rw [HE2.out]
      exact (HD.out.at HQ (grown_setB _ _ _ _) hgb (by simp)).below (Below.refl _ _).drew

theorem rsteps_three (d : Dk) (a b c : St) : d.steps [a, b, c] = if (d.one a).1 = 0 then (if ((d.one a).2.one b).1 = 0 then ((d.one a).2.one b).2.one c else (d.one a).2.one b) else d.one a := by
  rw [steps_cons, steps_cons, steps_cons]
  simp only [Dk.steps]
  split
  · split
    · generalize ((d.one a).2.one b).2.one c = r
      obtain ⟨e, x⟩ := r
      split
      · rename_i h; simp only at h; rw [h]
      · rfl
    · rfl
  · rfl
theorem steps_one1 (d : Dk) (a : St) : d.steps [a] = d.one a := by
  rw [steps_cons]
  simp only [Dk.steps]
  generalize d.one a = r
  obtain ⟨e, x⟩ := r
  split
  · rename_i h; simp only at h; rw [h]
  · rfl
theorem one_file {d : Dk} {i : Nat} {t : List UInt8} (hi : i < 3) (h0 : (d.one (stMake i)).1 = 0) (h1 : ((d.one (stMake i)).2.one (stAppend i t)).1 = 0) : (((d.one (stMake i)).2.one (stAppend i t)).2.file i).isSome = true := by
  obtain ⟨bb, d1, hct⟩ : ∃ b d', (d.one (stMake i)).2.count = (b, d') := ⟨_, _, rfl⟩
  cases bb with
  | false => rw [one_no hct] at h1; cases h1
  | true =>
    rw [one_yes hct] at h1 ⊢
    unfold Dk.take at h1 ⊢
    rw [if_neg (by simp [stAppend])] at h1 ⊢
    split at h1
    · cases h1
    · rename_i f hf
      rw [if_pos (show (stAppend i t).tag = 1 from rfl)] at h1 ⊢
      split at h1
      · cases h1
      · rename_i hroom
        rw [if_neg hroom]
        show ((d1.put i (some ⟨f.text ++ t, f.sync⟩)).file i).isSome = true
        rw [file_put _ _ _ _ (show i ≤ 2 by omega), if_pos rfl]
        rfl
theorem make_there {d d' : Dk} {i : Nat} (hi : i < 3) (h : d.count = (true, d')) : d.one (stMake i) = (0, d'.put i (some ⟨[], 0⟩)) := by
  rw [one_yes h]; unfold Dk.take; rw [if_pos (show (stMake i).tag = 0 from rfl)]; rfl
set_option maxRecDepth 100000 in
set_option maxHeartbeats 1600000 in
theorem makes_any (G : Nat → Prop) (b : Nat) (d : Dk) (q : RfP) (i : Nat) (t : List UInt8) (w : World) (hR : RefAt w G b d q) (hok : DkOk d) (hi : i < 3) (ht : t.length ≤ 1000000) :
    Calls Tryz.prog 172 #[.pointer (some ⟨b, 0, none⟩), .int .i64 (i : Int), .string (S t)] w fun e w' => e = .returned (.int .i64 (d.steps [stMake i, stAppend i t, stSync i]).1) ∧ RDone G b w (d.steps [stMake i, stAppend i t, stSync i]).2 w' := by
  have HST := rstep_any G b d q w hR hok
  have hgb := hR.gb
  have hok' := hok.count
  rw [rsteps_three]
  obtain ⟨bb, d', hct⟩ : ∃ b d', d.count = (b, d') := ⟨_, _, rfl⟩
  rw [hct] at HST hok'
  change DkOk d' at hok'
  cases bb with
  | false =>
    have HE : Hid ((if (d.one (stMake i)).1 = 0 then (if ((d.one (stMake i)).2.one (stAppend i t)).1 = 0 then ((d.one (stMake i)).2.one (stAppend i t)).2.one (stSync i) else (d.one (stMake i)).2.one (stAppend i t)) else d.one (stMake i)) = (8, d')) := by
      rw [one_no (st := stMake i) hct]; rfl
    generalize (if (d.one (stMake i)).1 = 0 then (if ((d.one (stMake i)).2.one (stAppend i t)).1 = 0 then ((d.one (stMake i)).2.one (stAppend i t)).2.one (stSync i) else (d.one (stMake i)).2.one (stAppend i t)) else d.one (stMake i)) = R at *
    clear hR hok hct hok'
    go_enter Tryz.func172, Tryz.ntmps172
    go_wp2_with (first | (go_at_call 176; refine HST.mono ?_; rintro e w1 ⟨rfl, hd⟩; have HD : Hid (RDone G b w d' w1) := hd; clear hd))
    go_ret
    exact ⟨by rw [HE.out]; rfl, by rw [HE.out]; exact HD.out⟩
  | true =>
    have hm := make_there hi hct
    have hofile := one_file (d := d) (i := i) (t := t) hi (by rw [hm])
    rw [hm] at hofile ⊢
    rw [if_pos rfl]
    simp only at hofile ⊢
    have hfm : ((d'.put i (some ⟨[], 0⟩)).file i).isSome = true := by rw [file_put _ _ _ _ (show i ≤ 2 by omega), if_pos rfl]; rfl
    have hokm : DkOk (d'.put i (some ⟨[], 0⟩)) := by
      have := hok'.take (s := stMake i) (fine_make i)
      exact this
    have hoka : DkOk ((d'.put i (some ⟨[], 0⟩)).one (stAppend i t)).2 := by
      have := hokm.steps [stAppend i t] (by intro s hs; simp at hs; subst hs; exact fine_append _ _)
      rw [steps_one1] at this
      exact this
    have HMD : Hid (∀ (w1 : World) (q' : RfP), RefAt w1 (Fx G w w1) b d' q' → RDone G b w d' w1 → RDone G b w (d'.put i (some ⟨[], 0⟩)) (((w1.setCell ⟨b, 2 + i * 3, none⟩ (.bool true)).setCell ⟨b, 2 + i * 3 + 1, none⟩ (.string ⟨#[]⟩)).setCell ⟨b, 2 + i * 3 + 2, none⟩ (.int .i64 0))) := fun w1 q' h h2 =>
      h2.at (h.made hi) (grown_trans (grown_trans (grown_setB _ _ _ _) (grown_setB _ _ _ _)) (grown_setB _ _ _ _)) hgb (by simp)
    have HFR : Hid (∀ (w1 : World) (q' : RfP), RefAt w1 (Fx G w w1) b d' q' → (∃ u, w1.cell? ⟨b, 2 + i * 3, none⟩ = some (.bool u)) ∧ (∃ u, w1.cell? ⟨b, 2 + i * 3 + 1, none⟩ = some (.string u)) ∧ (∃ u, w1.cell? ⟨b, 2 + i * 3 + 2, none⟩ = some (.int .i64 u)) ∧ w1.frozen? ⟨b, 2 + i * 3, none⟩ = false ∧ w1.frozen? ⟨b, 2 + i * 3 + 1, none⟩ = false ∧ w1.frozen? ⟨b, 2 + i * 3 + 2, none⟩ = false) := fun w1 q' h => by
      obtain ⟨h1, h2, h3⟩ := file_cells h.box hi
      exact ⟨⟨_, h1⟩, ⟨_, h2⟩, ⟨_, h3⟩, h.box.frozen _, h.box.frozen _, h.box.frozen _⟩
    have HAP : Hid (∀ w1 : World, RDone G b w (d'.put i (some ⟨[], 0⟩)) w1 → Calls Tryz.prog 199 #[.pointer (some ⟨b, 0, none⟩), .int .i64 (i : Int), .string (S t)] w1 fun e w' => e = .returned (.int .i64 ((d'.put i (some ⟨[], 0⟩)).one (stAppend i t)).1) ∧ RDone G b w ((d'.put i (some ⟨[], 0⟩)).one (stAppend i t)).2 w') := fun w1 h => by
      obtain ⟨⟨q1, h1⟩, h2⟩ := h
      exact (appends_any _ b _ q1 i t w1 h1 hokm hi hfm ht).mono fun e w' ⟨a1, a2⟩ => ⟨a1, RDone.then ⟨⟨q1, h1⟩, h2⟩ a2⟩
    have HSY : Hid (((d'.put i (some ⟨[], 0⟩)).one (stAppend i t)).1 = 0 → ∀ w1 : World, RDone G b w ((d'.put i (some ⟨[], 0⟩)).one (stAppend i t)).2 w1 → Calls Tryz.prog 175 #[.pointer (some ⟨b, 0, none⟩), .int .i64 (i : Int)] w1 fun e w' => e = .returned (.int .i64 (((d'.put i (some ⟨[], 0⟩)).one (stAppend i t)).2.one (stSync i)).1) ∧ RDone G b w (((d'.put i (some ⟨[], 0⟩)).one (stAppend i t)).2.one (stSync i)).2 w') := fun h0 w1 h => by
      obtain ⟨⟨q1, h1⟩, h2⟩ := h
      exact (syncs_any _ b _ q1 i w1 h1 hoka hi (hofile h0)).mono fun e w' ⟨a1, a2⟩ => ⟨a1, RDone.then ⟨⟨q1, h1⟩, h2⟩ a2⟩
    clear hofile hoka hfm hm
    generalize (d'.put i (some ⟨[], 0⟩)).one (stAppend i t) = r at *
    obtain ⟨re, rd⟩ := r
    simp only at HAP HSY ⊢
    by_cases h0 : re = 0
    · subst h0
      rw [if_pos rfl]
      have HSY2 : Hid (∀ w1 : World, RDone G b w rd w1 → _) := HSY.out rfl
      clear HSY
      generalize rd.one (stSync i) = r2 at *
      clear hR hok hct hok' hokm
      go_enter Tryz.func172, Tryz.ntmps172
      go_wp2_with (first | (go_at_call 176; refine HST.mono ?_; rintro e w1 ⟨rfl, hd⟩; have HD : Hid (RDone G b w d' w1) := hd; obtain ⟨⟨q', hq'⟩, hc'⟩ := hd; obtain ⟨⟨u0, k0⟩, ⟨u1, k1⟩, ⟨u2, k2⟩, kf0, kf1, kf2⟩ := HFR.out w1 q' hq'; have HQ := HMD.out w1 q' hq' HD.out; have HQ1 := HAP.out _ HQ; clear hq' hc' HQ) | (go_at_call 199; refine HQ1.mono ?_; rintro e w2 ⟨rfl, hd2⟩; have HD2 : Hid (RDone G b w rd w2) := hd2; clear hd2) | (go_at_call 175; refine (HSY2.out w2 HD2.out).mono ?_; rintro e w3 ⟨rfl, hd3⟩; have HD3 : Hid (RDone G b w r2.2 w3) := hd3; clear hd3))
      go_ret
      exact ⟨rfl, HD3.out⟩
    · rw [if_neg h0]
      clear hR hok hct hok' hokm
      go_enter Tryz.func172, Tryz.ntmps172
      go_wp2_with (first | (go_at_call 176; refine HST.mono ?_; rintro e w1 ⟨rfl, hd⟩; have HD : Hid (RDone G b w d' w1) := hd; obtain ⟨⟨q', hq'⟩, hc'⟩ := hd; obtain ⟨⟨u0, k0⟩, ⟨u1, k1⟩, ⟨u2, k2⟩, kf0, kf1, kf2⟩ := HFR.out w1 q' hq'; have HQ := HMD.out w1 q' hq' HD.out; have HQ1 := HAP.out _ HQ; clear hq' hc' HQ) | (go_at_call 199; refine HQ1.mono ?_; rintro e w2 ⟨rfl, hd2⟩; have HD2 : Hid (RDone G b w rd w2) := hd2; clear hd2))
      go_ret
      exact ⟨rfl, HD2.out⟩

theorem RefAt.opened {W : World} {G : Nat → Prop} {b : Nat} {d : Dk} {q : RfP} {blk : Nat} {c1 c2 : Int} (h : RefAt W G b d q) : RefAt (((((W.setCell ⟨b, 13, none⟩ (.bool true)).setCell ⟨b, 14, none⟩ (.int .i64 (blk : Int))).setCell ⟨b, 15, none⟩ (.int .i64 c1)).setCell ⟨b, 16, none⟩ (.int .i64 c2)).setCell ⟨b, 17, none⟩ (.slice none 0 0)) G b (d.opens blk) ⟨q.keep, blk, c1, c2, .slice none 0 0⟩ :=
  ⟨((((h.box.setj 13 _).setj 14 _).setj 15 _).setj 16 _).setj 17 _, World.ownsRow_nil _ _ _ _, fun e => (by cases e), h.left, h.keep, fun b e => by cases e; rfl, h.gb, fun g e => (by cases e)⟩
set_option maxRecDepth 100000 in
set_option maxHeartbeats 1600000 in
theorem opens_any (G : Nat → Prop) (b : Nat) (d : Dk) (q : RfP) (blk : Nat) (c1 c2 : Int) (w : World) (hR : RefAt w G b d q) :
    Calls Tryz.prog 173 #[.pointer (some ⟨b, 0, none⟩), .agg #[.int .i64 (blk : Int), .int .i64 c1, .int .i64 c2]] w fun e w' => e = .returned (.tuple #[]) ∧ RDone G b w (d.opens blk) w' := by
  have hb : ∀ o : Obj, Bx (w.alloc o) b (refC d q) 273 := fun o => hR.box.alloc o
  have f13 := hR.box.frozen 13
  have f14 := hR.box.frozen 14
  have f15 := hR.box.frozen 15
  have f16 := hR.box.frozen 16
  have f17 := hR.box.frozen 17
  have c13 := hR.box.cell (j := 13) rfl
  have c14 := hR.box.cell (j := 14) rfl
  have c15 := hR.box.cell (j := 15) rfl
  have c16 := hR.box.cell (j := 16) rfl
  have c17 := hR.box.cell (j := 17) rfl
  have hlt := hR.box.lt
  have hne : b ≠ w.heap.size := by omega
  have hne2 : w.heap.size ≠ b := by omega
  have HO : Hid (RefAt (((((w.setCell ⟨b, 13, none⟩ (.bool true)).setCell ⟨b, 14, none⟩ (.int .i64 (blk : Int))).setCell ⟨b, 15, none⟩ (.int .i64 c1)).setCell ⟨b, 16, none⟩ (.int .i64 c2)).setCell ⟨b, 17, none⟩ (.slice none 0 0)) G b (d.opens blk) ⟨q.keep, blk, c1, c2, .slice none 0 0⟩) := hR.opened
  have hgb := hR.gb
  clear hR hb
  go_enter Tryz.func173, Tryz.ntmps173
  go_wp2
  refine bodyPost_end (v := .tuple #[]) ?_ rfl ⟨rfl, ?_⟩
  · simp [results, Tryz.results173, go_sem]
  · have h1 : RDone G b w (d.opens blk) (((((w.setCell ⟨b, 13, none⟩ (.bool true)).setCell ⟨b, 14, none⟩ (.int .i64 (blk : Int))).setCell ⟨b, 15, none⟩ (.int .i64 c1)).setCell ⟨b, 16, none⟩ (.int .i64 c2)).setCell ⟨b, 17, none⟩ (.slice none 0 0)) :=
      ⟨⟨_, HO.out.mono (fun k hk => .inl hk)⟩, chg_one (grown_trans (grown_trans (grown_trans (grown_trans (grown_setB _ _ _ _) (grown_setB _ _ _ _)) (grown_setB _ _ _ _)) (grown_setB _ _ _ _)) (grown_setB _ _ _ _)) hgb⟩
    exact h1.below ((Below.refl _ _).alloc (Nat.le_refl _) _)
end Go.Proofs.YtdhgebdbiehchaaGreatDoor
namespace Go.Proofs.YtdhgebdbiehchaaGreatDoor
open Go.RowKit Go.Maps
set_option linter.unusedSimpArgs false
set_option linter.unusedVariables false

theorem rcreate_bad {d : Dk} {a b c : Int} (h : wellB a b c = false) : d.create a b c = (1, d) := by unfold Dk.create; rw [if_pos h]
theorem rcreate_down {d : Dk} {a b c : Int} (h : wellB a b c = true) (hd : d.down = true) : d.create a b c = (7, d) := by unfold Dk.create; rw [if_neg (by simp [h]), if_pos hd]
theorem rcreate_there {d : Dk} {a b c : Int} (h : wellB a b c = true) (hd : d.down = false) (hf : d.f0.isSome = true) : d.create a b c = (5, d) := by unfold Dk.create; rw [if_neg (by simp [h]), if_neg (by simp [hd]), if_pos hf]
theorem rcreate_go {d : Dk} {a b c : Int} (h : wellB a b c = true) (hd : d.down = false) (hf : d.f0.isSome = false) : d.create a b c = d.opening a.toNat [stMake 0, stAppend 0 (headL a.toNat b.toNat c.toNat), stSync 0] := by unfold Dk.create; rw [if_neg (by simp [h]), if_neg (by simp [hd]), if_neg (by simp [hf])]
set_option maxRecDepth 100000 in
set_option maxHeartbeats 1600000 in
theorem rcreate_any (G : Nat → Prop) (b : Nat) (d : Dk) (q : RfP) (x y z : Int) (w : World) (hR : RefAt w G b d q) (hok : DkOk d) (hGz : ∀ k, G k → k < w.heap.size) :
    Calls Tryz.prog 118 #[.pointer (some ⟨b, 0, none⟩), .agg #[.int .i64 x, .int .i64 y, .int .i64 z]] w fun e w' => e = .returned (.int .i64 (d.create x y z).1) ∧ RDone G b w (d.create x y z).2 w' := by
  have HWL : Hid (∀ wx : World, _) := fun wx => well_any x y z wx
  have HS0 : Hid (∀ w1 : World, Below w.heap.size w w1 → RDone G b w d w1) := fun w1 hb => RDone.of_below hR hb
  have HB0 : Hid (∀ w1 : World, Below (w.alloc (.cells #[.int .i64 x, .int .i64 y, .int .i64 z] 29)).heap.size (w.alloc (.cells #[.int .i64 x, .int .i64 y, .int .i64 z] 29)) w1 → Below w.heap.size w w1) := fun w1 hb => ((Below.refl _ _).alloc (Nat.le_refl _) _).trans (hb.mono (by simp))
  have HXC : Hid (∀ w1 : World, Below (w.alloc (.cells #[.int .i64 x, .int .i64 y, .int .i64 z] 29)).heap.size (w.alloc (.cells #[.int .i64 x, .int .i64 y, .int .i64 z] 29)) w1 → Bx w1 w.heap.size #[.int .i64 x, .int .i64 y, .int .i64 z] 29) := fun w1 hb => (bx_new w _ _ rfl).below hb (by simp)
  have HCL : Hid (∀ w1 : World, Below w.heap.size w w1 → w1.cell? ⟨b, 1, none⟩ = some (.bool d.down) ∧ w1.cell? ⟨b, 2, none⟩ = some (.bool d.f0.isSome)) := fun w1 hb => by
    have := hR.box.below hb hR.box.lt
    exact ⟨this.cell (j := 1) rfl, this.cell (j := 2) rfl⟩
  cases hw : wellB x y z with
  | false =>
    have HE : Hid (d.create x y z = (1, d)) := rcreate_bad hw
    rw [hw] at HWL
    clear hR hok hGz
    go_enter Tryz.func118, Tryz.ntmps118
    go_wp2_with (first | (go_at_call 171; refine (HWL.out _).mono ?_; rintro e w1 ⟨rfl, hb⟩; have HB := HB0.out w1 hb; clear hb))
    go_ret
    exact ⟨by rw [HE.out]; rfl, by rw [HE.out]; exact HS0.out _ HB⟩
  | true =>
    rw [hw] at HWL
    cases hd : d.down with
    | true =>
      have HE : Hid (d.create x y z = (7, d)) := rcreate_down hw hd
      rw [hd] at HCL
      clear hR hok hGz
      go_enter Tryz.func118, Tryz.ntmps118
      go_wp2_with (first | (go_at_call 171; refine (HWL.out _).mono ?_; rintro e w1 ⟨rfl, hb⟩; have HB : Hid (Below w.heap.size w w1) := HB0.out w1 hb; obtain ⟨k1, k2⟩ := HCL.out w1 HB.out; clear hb))
      go_ret
      exact ⟨by rw [HE.out]; rfl, by rw [HE.out]; exact HS0.out _ HB.out⟩
    | false =>
      rw [hd] at HCL
      cases hf : d.f0.isSome with
      | true =>
        have HE : Hid (d.create x y z = (5, d)) := rcreate_there hw hd hf
        rw [hf] at HCL
        clear hR hok hGz
        go_enter Tryz.func118, Tryz.ntmps118
        go_wp2_with (first | (go_at_call 171; refine (HWL.out _).mono ?_; rintro e w1 ⟨rfl, hb⟩; have HB : Hid (Below w.heap.size w w1) := HB0.out w1 hb; obtain ⟨k1, k2⟩ := HCL.out w1 HB.out; clear hb))
        go_ret
        exact ⟨by rw [HE.out]; rfl, by rw [HE.out]; exact HS0.out _ HB.out⟩
      | false =>
        rw [hf] at HCL
        have HE := rcreate_go hw hd hf
        have hwb : 0 ≤ x ∧ x ≤ 400 ∧ 0 ≤ y ∧ y ≤ 4294967295 ∧ 0 ≤ z ∧ z ≤ 32 := by unfold wellB at hw; simp at hw; omega
        obtain ⟨x, rfl⟩ : ∃ n : Nat, x = n := ⟨x.toNat, by omega⟩
        rw [opening_eq] at HE
        have HHD : Hid (∀ wx : World, Calls Tryz.prog 61 #[.agg #[.int .i64 (x : Int), .int .i64 y, .int .i64 z]] wx fun e w' => e = .returned (.string (S (headL x y.toNat z.toNat))) ∧ Below wx.heap.size wx w') := fun wx => head_any x y z wx (by omega) (by omega) (by omega) (by omega) (by omega) (by omega)
        have HMK : Hid (∀ w1 : World, Below w.heap.size w w1 → Calls Tryz.prog 172 #[.pointer (some ⟨b, 0, none⟩), .int .i64 0, .string (S (headL x y.toNat z.toNat))] w1 fun e w' => e = .returned (.int .i64 (d.steps [stMake 0, stAppend 0 (headL x y.toNat z.toNat), stSync 0]).1) ∧ RDone G b w1 (d.steps [stMake 0, stAppend 0 (headL x y.toNat z.toNat), stSync 0]).2 w') := fun w1 hb =>
          makes_any G b d q 0 (headL x y.toNat z.toNat) w1 (hR.below hb) hok (by omega) (by rw [headL_length]; omega)
        have HE2 : Hid (d.create (x : Int) y z = if (d.steps [stMake 0, stAppend 0 (headL x y.toNat z.toNat), stSync 0]).1 = 0 then (0, (d.steps [stMake 0, stAppend 0 (headL x y.toNat z.toNat), stSync 0]).2.opens x) else d.steps [stMake 0, stAppend 0 (headL x y.toNat z.toNat), stSync 0]) := HE
        clear HE
        generalize headL x y.toNat z.toNat = hd14 at *
        generalize d.steps [stMake 0, stAppend 0 hd14, stSync 0] = r at *
        obtain ⟨re, rd⟩ := r
        simp only at HE2 HMK
        have HXK : Hid (∀ w1 w2 : World, Below (w.alloc (.cells #[.int .i64 (x : Int), .int .i64 y, .int .i64 z] 29)).heap.size (w.alloc (.cells #[.int .i64 (x : Int), .int .i64 y, .int .i64 z] 29)) w1 → RDone G b w1 rd w2 → w2.cell? ⟨w.heap.size, 0, none⟩ = some (.int .i64 (x : Int)) ∧ w2.cell? ⟨w.heap.size, 1, none⟩ = some (.int .i64 y) ∧ w2.cell? ⟨w.heap.size, 2, none⟩ = some (.int .i64 z)) := fun w1 w2 hb h2 => by
          have := (HXC.out w1 hb).chg h2.2 (fun hg => absurd (hGz _ hg) (by omega))
          exact ⟨this.cell (j := 0) rfl, this.cell (j := 1) rfl, this.cell (j := 2) rfl⟩
        by_cases h0 : re = 0
        · subst h0
          have HE3 : Hid (d.create (x : Int) y z = (0, rd.opens x)) := HE2
          have HOP : Hid (∀ w1 w2 : World, Below w.heap.size w w1 → RDone G b w1 rd w2 → Calls Tryz.prog 173 #[.pointer (some ⟨b, 0, none⟩), .agg #[.int .i64 (x : Int), .int .i64 y, .int .i64 z]] w2 fun e w' => e = .returned (.tuple #[]) ∧ RDone G b w (rd.opens x) w') := fun w1 w2 hb h => by
            have h' := h
            obtain ⟨⟨q1, h1⟩, h2⟩ := h'
            exact (opens_any _ b rd q1 x y z w2 h1).mono fun e w' ⟨a1, a2⟩ => ⟨a1, RDone.later hb (h.then a2)⟩
          clear hR hok hGz HE2 HS0
          go_enter Tryz.func118, Tryz.ntmps118
          go_wp2_with (first | (go_at_call 171; refine (HWL.out _).mono ?_; rintro e w1 ⟨rfl, hb⟩; have HB : Hid (Below w.heap.size w w1) := HB0.out w1 hb; have hx := HXC.out w1 hb; have x0 := hx.cell (j := 0) rfl; have x1 := hx.cell (j := 1) rfl; have x2 := hx.cell (j := 2) rfl; have HBA : Hid (Below _ _ w1) := hb; obtain ⟨k1, k2⟩ := HCL.out w1 HB.out; clear hb hx) | (go_at_call 61; refine (HHD.out _).mono ?_; rintro e w2 ⟨rfl, hb⟩; have HB2 : Hid (Below w.heap.size w w2) := HB.out.trans (hb.mono HB.out.size); have HBA2 : Hid (Below _ _ w2) := HBA.out.trans (hb.mono HBA.out.size); clear hb) | (go_at_call 172; refine (HMK.out w2 HB2.out).mono ?_; rintro e w3 ⟨rfl, hd3⟩; obtain ⟨y0, y1, y2⟩ := HXK.out w2 w3 HBA2.out hd3; have HD3 : Hid (RDone G b w2 rd w3) := hd3; clear hd3) | (go_at_call 173; refine (HOP.out w2 w3 HB2.out HD3.out).mono ?_; rintro e w4 ⟨rfl, hd4⟩; have HD4 : Hid (RDone G b w (rd.opens x) w4) := hd4; clear hd4))
          go_ret
          exact ⟨by rw [HE3.out]; rfl, by rw [HE3.out]; exact HD4.out⟩
        · have HE3 : Hid (d.create (x : Int) y z = (re, rd)) := by
            have := HE2.out
            rw [if_neg h0] at this
            exact this
          clear hR hok hGz HE2 HS0
          go_enter Tryz.func118, Tryz.ntmps118
          go_wp2_with (first | (go_at_call 171; refine (HWL.out _).mono ?_; rintro e w1 ⟨rfl, hb⟩; have HB : Hid (Below w.heap.size w w1) := HB0.out w1 hb; have hx := HXC.out w1 hb; have x0 := hx.cell (j := 0) rfl; have x1 := hx.cell (j := 1) rfl; have x2 := hx.cell (j := 2) rfl; obtain ⟨k1, k2⟩ := HCL.out w1 HB.out; clear hb hx) | (go_at_call 61; refine (HHD.out _).mono ?_; rintro e w2 ⟨rfl, hb⟩; have HB2 : Hid (Below w.heap.size w w2) := HB.out.trans (hb.mono HB.out.size); clear hb) | (go_at_call 172; refine (HMK.out w2 HB2.out).mono ?_; rintro e w3 ⟨rfl, hd3⟩; have HD3 : Hid (RDone G b w2 rd w3) := hd3; clear hd3))
          go_ret
          exact ⟨by rw [HE3.out]; rfl, by rw [HE3.out]; exact RDone.later HB2.out HD3.out⟩
end Go.Proofs.YtdhgebdbiehchaaGreatDoor
