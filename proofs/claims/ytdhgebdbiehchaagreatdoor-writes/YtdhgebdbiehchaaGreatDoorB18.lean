/- The contract of the document's Read: the entries of all right blocks, from the first on. The contract of the document's Read where the log has a head. The contract of the document's Index. The contract of record.readEntries: so many entries, which must have all bytes. -/
import Derived.Test.YtdhgebdbiehchaaGreatDoorB16
import Derived.Test.YtdhgebdbiehchaaGreatDoorB09
import Derived.Test.YtdhgebdbiehchaaGreatDoorB17
namespace Go.Proofs.YtdhgebdbiehchaaGreatDoor
open Go.RowKit
set_option linter.unusedSimpArgs false
set_option linter.unusedVariables false

theorem own_apart {w : World} {b1 e1 s1 n1 b2 e2 s2 n2 : Nat} {v1 v2 : Value} {x1 x2 : List Value} (h1 : w.ownsRow b1 e1 s1 v1 n1 x1) (h2 : w.ownsRow b2 e2 s2 v2 n2 x2) (he : e1 ≠ e2) : v1.ownBlock = none ∨ v1.ownBlock ≠ v2.ownBlock := by
  rcases h1.2 with ⟨rfl, _⟩ | ⟨g, cap, cur, rfl, _, hg, _⟩
  · exact .inl rfl
  · rcases h2.2 with ⟨rfl, _⟩ | ⟨g', cap', cur', rfl, _, hg', _⟩
    · exact .inr (by simp [Value.ownBlock])
    · right
      intro h
      simp [Value.ownBlock] at h
      subst h
      rw [hg] at hg'
      simp at hg'
      exact he hg'.2
theorem far3r (w2 : World) {n m : Nat} (h : n ≠ m) (a b c : Value) (j : Nat) : (((w2.setCell ⟨n, 0, none⟩ a).setCell ⟨n, 1, none⟩ b).setCell ⟨n, 2, none⟩ c).drew.cell? ⟨m, j, none⟩ = w2.cell? ⟨m, j, none⟩ := by
  show (((w2.setCell ⟨n, 0, none⟩ a).setCell ⟨n, 1, none⟩ b).setCell ⟨n, 2, none⟩ c).cell? ⟨m, j, none⟩ = _
  rw [World.cell?_setCell_far _ _ _ _ h, World.cell?_setCell_far _ _ _ _ h, World.cell?_setCell_far _ _ _ _ h]
/-- Two boxes of three cells: the result's, and the head's. -/
def TwoBoxes (W : World) (n m : Nat) (a b c : Value) : Prop := (∃ x y z, W.cell? ⟨n, 0, none⟩ = some (.int .i64 x) ∧ W.cell? ⟨n, 1, none⟩ = some (.int .i64 y) ∧ W.cell? ⟨n, 2, none⟩ = some (.int .i64 z)) ∧ (∀ i, W.frozen? ⟨n, i, none⟩ = false) ∧ (W.cell? ⟨m, 0, none⟩ = some a ∧ W.cell? ⟨m, 1, none⟩ = some b ∧ W.cell? ⟨m, 2, none⟩ = some c) ∧ n < m ∧ m < W.heap.size
theorem TwoBoxes.below {W W' : World} {n m k : Nat} {a b c : Value} (h : TwoBoxes W n m a b c) (hb : Below k W W') (hk : m < k) : TwoBoxes W' n m a b c := by
  obtain ⟨⟨x, y, z, h0, h1, h2⟩, hf, ⟨g0, g1, g2⟩, hn, hm⟩ := h
  have hnk : n < k := by omega
  exact ⟨⟨x, y, z, (hb.cell (p := ⟨n, 0, none⟩) hnk).trans h0, (hb.cell (p := ⟨n, 1, none⟩) hnk).trans h1, (hb.cell (p := ⟨n, 2, none⟩) hnk).trans h2⟩, fun i => (hb.frozen (p := ⟨n, i, none⟩) hnk).trans (hf i), ⟨(hb.cell (p := ⟨m, 0, none⟩) hk).trans g0, (hb.cell (p := ⟨m, 1, none⟩) hk).trans g1, (hb.cell (p := ⟨m, 2, none⟩) hk).trans g2⟩, hn, Nat.lt_of_lt_of_le hm hb.size⟩
theorem refhead_any (s : ByteArray) (w : World) (hs' : s.size ≤ 140737488351232) :
    Calls Tryz.prog 196 #[.string s] w fun e w' => ∃ b sd bt : Int, e = .returned (.tuple #[.agg #[.int .i64 b, .int .i64 sd, .int .i64 bt], .bool (headB s.data.toList)]) ∧ (headB s.data.toList = true → b = hdBlk s.data.toList ∧ sd = hdSeed s.data.toList ∧ bt = hdBits s.data.toList) ∧ Below w.heap.size w w' := by
  by_cases h : 14 ≤ s.size
  · refine (refhead_long s w h hs').mono ?_
    rintro e w' ⟨rfl, hb⟩
    exact ⟨_, _, _, rfl, fun _ => ⟨rfl, rfl, rfl⟩, hb⟩
  · have hf : headB s.data.toList = false := by
      unfold headB
      rw [show decide (14 ≤ s.data.toList.length) = false by simp; omega]
      rfl
    rw [hf]
    refine (refhead_short s w (by omega)).mono ?_
    rintro e w' ⟨rfl, hb⟩
    exact ⟨_, _, _, rfl, (fun h => by cases h), hb⟩

/-- What Read answers. -/
def ReadIs (w : World) (base : Nat) (v : Value) (rest : Int) (b sd bt : Int) (log : List UInt8) : Prop :=
  (headB log = true → b = hdBlk log ∧ sd = hdSeed log ∧ bt = hdBits log ∧ rest = (log.length : Int) - ((readL log (hdBlk log) 14).2 : Int) ∧ w.ownsRow base 302 5 v (readL log (hdBlk log) 14).1.length (cellsS (readL log (hdBlk log) 14).1) ∧ (readL log (hdBlk log) 14).1.length ≤ 100000000) ∧ (headB log = false → v = .slice none 0 0 ∧ rest = 0)

set_option maxRecDepth 100000 in
set_option maxHeartbeats 3200000 in
theorem refRead_no (log : ByteArray) (w : World) (hs : log.size ≤ 100000) (hh : headB log.data.toList = false) :
    Calls Tryz.prog 163 #[.string log] w fun e w' => ∃ v rest b sd bt, e = .returned (.tuple #[v, .int .i64 rest, .agg #[.int .i64 b, .int .i64 sd, .int .i64 bt], .bool (headB log.data.toList)]) ∧ ReadIs w' w.heap.size v rest b sd bt log.data.toList ∧ Below w.heap.size w w' := by
  obtain ⟨i0, hi, hz0, hz1, hz2⟩ := info_parts info_said
  have hl : log.data.toList.length = log.size := by simp
  go_enter Tryz.func163, Tryz.ntmps163
  go_wp2_with fail
  refine (refhead_any _ _ (by omega)).mono ?_
  rintro e w1 ⟨b, sd, bt, rfl, hcfg, hb1⟩
  have hz1 : w.heap.size < w1.heap.size := by have := hb1.size; simp at this; omega
  have hT : TwoBoxes (w1.alloc (.cells #[.int .i64 b, .int .i64 sd, .int .i64 bt] 29)) w.heap.size w1.heap.size (.int .i64 b) (.int .i64 sd) (.int .i64 bt) := by
    have hA := (Below.refl w1.heap.size w1).alloc (Nat.le_refl _) (.cells #[.int .i64 b, .int .i64 sd, .int .i64 bt] 29)
    refine ⟨⟨0, 0, 0, ?_, ?_, ?_⟩, fun i => ?_, ⟨by simp, by simp, by simp⟩, hz1, by simp⟩
    · rw [hA.cell (p := ⟨w.heap.size, 0, none⟩) hz1, hb1.cell (p := ⟨w.heap.size, 0, none⟩) (by simp)]; simp
    · rw [hA.cell (p := ⟨w.heap.size, 1, none⟩) hz1, hb1.cell (p := ⟨w.heap.size, 1, none⟩) (by simp)]; simp
    · rw [hA.cell (p := ⟨w.heap.size, 2, none⟩) hz1, hb1.cell (p := ⟨w.heap.size, 2, none⟩) (by simp)]; simp
    · rw [hA.frozen (p := ⟨w.heap.size, i, none⟩) hz1, hb1.frozen (p := ⟨w.heap.size, i, none⟩) (by simp)]; simp
  have hB0 : Below w.heap.size w (w1.alloc (.cells #[.int .i64 b, .int .i64 sd, .int .i64 bt] 29)) := (((Below.refl _ _).alloc (Nat.le_refl _) _).trans (hb1.mono (by simp))).alloc (Nat.le_of_lt hz1) _
  clear hb1
  have hzW : (w1.alloc (.cells #[.int .i64 b, .int .i64 sd, .int .i64 bt] 29)).heap.size = w1.heap.size + 1 := by simp
  rw [hh]
  go_wp2_with fail
  generalize w1.alloc (.cells #[.int .i64 b, .int .i64 sd, .int .i64 bt] 29) = W0 at *
  have HB0 : Hid _ := hB0
  obtain ⟨⟨x, y, z, r0, r1, r2⟩, rf, ⟨c0, c1, c2⟩, hn, hm⟩ := hT
  have f0 := rf 0
  have f1 := rf 1
  have f2 := rf 2
  have HH : Hid (headB log.data.toList = false) := hh
  clear rf hcfg hB0 hh
  go_region_held3 (fun w' => w'.cell? ⟨w1.heap.size, 0, none⟩ = W0.cell? ⟨w1.heap.size, 0, none⟩ ∧ w'.cell? ⟨w1.heap.size, 1, none⟩ = W0.cell? ⟨w1.heap.size, 1, none⟩ ∧ w'.cell? ⟨w1.heap.size, 2, none⟩ = W0.cell? ⟨w1.heap.size, 2, none⟩) (first | (exact ⟨far3r _ (by omega) _ _ _ 0, far3r _ (by omega) _ _ _ 1, far3r _ (by omega) _ _ _ 2⟩) | (exact ⟨rfl, rfl, rfl⟩)) (first | (fail))
  all_goals
    go_wp2
    exact bodyPost_ret (v := .tuple #[.slice none 0 0, .int .i64 0, .agg #[.int .i64 b, .int .i64 sd, .int .i64 bt], .bool false]) (by simp [results, Tryz.results163, go_sem, r0, r1, r2]) rfl ⟨_, _, _, _, _, by rw [HH.out], ⟨(fun h => by rw [HH.out] at h; cases h), fun _ => ⟨rfl, rfl⟩⟩, (((HB0.out.setCell (Nat.le_refl _) _).setCell (Nat.le_refl _) _).setCell (Nat.le_refl _) _).drew⟩
end Go.Proofs.YtdhgebdbiehchaaGreatDoor
namespace Go.Proofs.YtdhgebdbiehchaaGreatDoor
open Go.RowKit
set_option linter.unusedSimpArgs false
set_option linter.unusedVariables false

theorem cells_five_new (w : World) (t : TypeId) (a b c d e : Value) : ∀ j u, [a, b, c, d, e][j]? = some u → (w.alloc (.cells #[a, b, c, d, e] t)).cell? ((⟨w.heap.size, 0, none⟩ : Addr).add j) = some u := by
  intro j u hj
  match j, hj with
  | 0, hj => simp at hj; subst hj; simp [Addr.add]
  | 1, hj => simp at hj; subst hj; simp [Addr.add]
  | 2, hj => simp at hj; subst hj; simp [Addr.add]
  | 3, hj => simp at hj; subst hj; simp [Addr.add]
  | 4, hj => simp at hj; subst hj; simp [Addr.add]
theorem own_set3 {w : World} {base e size n : Nat} {v : Value} {xs : List Value} (h : w.ownsRow base e size v n xs) {m : Nat} (hm : m < base) (a b c : Value) : (((w.setCell ⟨m, 0, none⟩ a).setCell ⟨m, 1, none⟩ b).setCell ⟨m, 2, none⟩ c).ownsRow base e size v n xs :=
  ownsRow_setCell_below (ownsRow_setCell_below (ownsRow_setCell_below h hm a) hm b) hm c

set_option maxRecDepth 100000 in
set_option maxHeartbeats 3200000 in
theorem refRead_yes (log : ByteArray) (w : World) (hs : log.size ≤ 100000) (hh : headB log.data.toList = true) :
    Calls Tryz.prog 163 #[.string log] w fun e w' => ∃ v rest b sd bt, e = .returned (.tuple #[v, .int .i64 rest, .agg #[.int .i64 b, .int .i64 sd, .int .i64 bt], .bool (headB log.data.toList)]) ∧ ReadIs w' w.heap.size v rest b sd bt log.data.toList ∧ Below w.heap.size w w' := by
  obtain ⟨i0, hi, hz0, hz1, hz2⟩ := info_parts info_said
  have hl : log.data.toList.length = log.size := by simp
  go_enter Tryz.func163, Tryz.ntmps163
  go_wp2_with fail
  refine (refhead_any _ _ (by omega)).mono ?_
  rintro e w1 ⟨b, sd, bt, rfl, hcfg, hb1⟩
  have hq1 : w.heap.size < w1.heap.size := by have := hb1.size; simp at this; omega
  have hT : TwoBoxes (w1.alloc (.cells #[.int .i64 b, .int .i64 sd, .int .i64 bt] 29)) w.heap.size w1.heap.size (.int .i64 b) (.int .i64 sd) (.int .i64 bt) := by
    have hA := (Below.refl w1.heap.size w1).alloc (Nat.le_refl _) (.cells #[.int .i64 b, .int .i64 sd, .int .i64 bt] 29)
    refine ⟨⟨0, 0, 0, ?_, ?_, ?_⟩, fun i => ?_, ⟨by simp, by simp, by simp⟩, hq1, by simp⟩
    · rw [hA.cell (p := ⟨w.heap.size, 0, none⟩) hq1, hb1.cell (p := ⟨w.heap.size, 0, none⟩) (by simp)]; simp
    · rw [hA.cell (p := ⟨w.heap.size, 1, none⟩) hq1, hb1.cell (p := ⟨w.heap.size, 1, none⟩) (by simp)]; simp
    · rw [hA.cell (p := ⟨w.heap.size, 2, none⟩) hq1, hb1.cell (p := ⟨w.heap.size, 2, none⟩) (by simp)]; simp
    · rw [hA.frozen (p := ⟨w.heap.size, i, none⟩) hq1, hb1.frozen (p := ⟨w.heap.size, i, none⟩) (by simp)]; simp
  have hB0 : Below w.heap.size w (w1.alloc (.cells #[.int .i64 b, .int .i64 sd, .int .i64 bt] 29)) := (((Below.refl _ _).alloc (Nat.le_refl _) _).trans (hb1.mono (by simp))).alloc (Nat.le_of_lt hq1) _
  clear hb1
  have hzW : (w1.alloc (.cells #[.int .i64 b, .int .i64 sd, .int .i64 bt] 29)).heap.size = w1.heap.size + 1 := by simp
  rw [hh]
  obtain ⟨rfl, rfl, rfl⟩ := hcfg hh
  have HH : Hid (headB log.data.toList = true) := hh
  have h14 : 14 ≤ log.size := by
    simp only [headB, Bool.and_eq_true, decide_eq_true_eq] at hh
    omega
  clear hcfg hh
  generalize hbk : hdBlk log.data.toList = B at *
  generalize hsd : hdSeed log.data.toList = sdn at *
  generalize hbt : hdBits log.data.toList = btn at *
  have HF : Hid (hdBlk log.data.toList = B ∧ hdSeed log.data.toList = sdn ∧ hdBits log.data.toList = btn) := ⟨hbk, hsd, hbt⟩
  clear hbk hsd hbt
  go_wp2
  generalize w1.alloc (.cells #[.int .i64 (B : Int), .int .i64 (sdn : Int), .int .i64 (btn : Int)] 29) = W0 at *
  have HT : Hid _ := hT
  have hm0 : w1.heap.size < W0.heap.size := by omega
  clear hT hzW
  go_loopw [8, 9] (fun o i wr => ∃ (a : Nat) (acc : List Sd), i = .int .i64 a ∧ (14 ≤ a ∧ a ≤ log.size) ∧ wr.ownsRow W0.heap.size 302 5 o acc.length (cellsS acc) ∧ acc.length ≤ 255 * a ∧ Below W0.heap.size W0 wr ∧ Hid (readL log.data.toList B 14 = (acc ++ (readL log.data.toList B a).1, (readL log.data.toList B a).2))) (fun _ i _ => log.size - (intOf i).toNat)
  case atStart => exact ⟨14, [], rfl, ⟨Nat.le_refl _, h14⟩, World.ownsRow_nil _ _ _ _, by simp, Below.refl _ _, by simp [Hid]⟩
  case round =>
    obtain ⟨a, acc, rfl, ⟨ha1, ha2⟩, ho, hacc, hbr, HE⟩ := hrel
    obtain ⟨W1, rfl⟩ : ∃ W1, W1 = wr := ⟨_, rfl⟩
    have hT1 := TwoBoxes.below HT.out hbr (by omega)
    obtain ⟨⟨x, y, z, r0, r1, r2⟩, rf, ⟨c0, c1, c2⟩, hn, hm⟩ := hT1
    go_wp2_with fail
    refine (refblock_any log a B sdn btn _ (by omega) (by omega)).mono ?_
    rintro e w3 ⟨v, n, rfl, hBI, hb3⟩
    have hb3' : Below W1.heap.size W1 w3 := hb3
    have hq3 : W0.heap.size ≤ w3.heap.size := Nat.le_trans hbr.size hb3.size
    have hbx : Below W0.heap.size W0 w3 := hbr.trans (hb3.mono hbr.size)
    have how := own_below ho hb3 (Nat.le_refl _)
    have HP : Hid (∀ es k, blockP log.data.toList a B = some (es, k) → 7 ≤ k ∧ k < 65543 ∧ 1 ≤ es.length ∧ es.length ≤ 255 ∧ 14 ≤ a ∧ a + k ≤ log.data.toList.length) := fun es k h => blockP_some h
    have HN : Hid (blockP log.data.toList a B = none → readL log.data.toList B a = ([], a)) := readL_none
    have HSM : Hid (∀ es k, blockP log.data.toList a B = some (es, k) → readL log.data.toList B a = (saids a 0 es ++ (readL log.data.toList B (a + k)).1, (readL log.data.toList B (a + k)).2)) := fun es k h => readL_some h
    clear ho r0 r1 r2 rf c0 c1 c2 hn hm
    obtain ⟨⟨x, y, z, r0, r1, r2⟩, rf, ⟨c0, c1, c2⟩, hn, hm⟩ := TwoBoxes.below HT.out hbx (by omega)
    generalize blockP log.data.toList a B = r at *
    rcases r with _ | ⟨es, k⟩
    · obtain ⟨rfl, rfl⟩ := hBI
      have HR : Hid (readL log.data.toList B 14 = (acc, a)) := by
        show _ = _
        rw [HE.out, HN.out rfl]; simp
      have f0 := rf 0
      have f1 := rf 1
      have f2 := rf 2
      have HB3 : Hid (Below w.heap.size w w3) := hB0.trans (hbx.mono hB0.size)
      have HOW : Hid (w3.ownsRow W0.heap.size 302 5 u8 acc.length (cellsS acc)) := how
      have hwr : IntKind.i64.wrap ((log.size : Int) - (a : Int)) = (log.size : Int) - (a : Int) := by rw [IntKind.wrap_i64]; omega
      clear rf HN HSM HP HE hb3 hb3' hbx how hB0
      go_wp2_with fail
      go_region_held3 (fun w' => w'.cell? ⟨w1.heap.size, 0, none⟩ = w3.cell? ⟨w1.heap.size, 0, none⟩ ∧ w'.cell? ⟨w1.heap.size, 1, none⟩ = w3.cell? ⟨w1.heap.size, 1, none⟩ ∧ w'.cell? ⟨w1.heap.size, 2, none⟩ = w3.cell? ⟨w1.heap.size, 2, none⟩) (first | (exact ⟨far3r _ (by omega) _ _ _ 0, far3r _ (by omega) _ _ _ 1, far3r _ (by omega) _ _ _ 2⟩) | (exact ⟨rfl, rfl, rfl⟩)) (first | (fail))
      all_goals
        go_wp2
        exact bodyPost_ret (v := .tuple #[u8, .int .i64 ((log.size : Int) - (a : Int)), .agg #[.int .i64 B, .int .i64 sdn, .int .i64 btn], .bool true]) (by simp [results, Tryz.results163, go_sem, r0, r1, r2, hwr]) rfl ⟨_, _, _, _, _, by rw [HH.out], ⟨fun _ => ⟨by rw [HF.out.1], by rw [HF.out.2.1], by rw [HF.out.2.2], by rw [HF.out.1, HR.out, hl], by rw [HF.out.1, HR.out]; exact own_lower (own_set3 HOW.out (by omega) _ _ _).drew (by omega), by rw [HF.out.1, HR.out]; exact (by omega : acc.length ≤ 100000000)⟩, fun h => by rw [HH.out] at h; cases h⟩, (((HB3.out.setCell (Nat.le_refl _) _).setCell (Nat.le_refl _) _).setCell (Nat.le_refl _) _).drew⟩
    · obtain ⟨rfl, hrow⟩ := hBI
      obtain ⟨k1, k2, k3, k4, _, k5⟩ := HP.out es k rfl
      rw [hl] at k5
      have HR : Hid (readL log.data.toList B 14 = ((acc ++ saids a 0 es) ++ (readL log.data.toList B (a + k)).1, (readL log.data.toList B (a + k)).2)) := by
        show _ = _
        rw [HE.out, HSM.out es k rfl]; simp
      clear HN HSM HP HE rf r0 r1 r2 c0 c1 c2
      have t0 : ((k : Int) == 0) = false := by rw [beq_eq_false_iff_ne]; omega
      obtain ⟨g, cap, rfl, hg0, hg1, _⟩ := own_cellsN hrow (by omega)
      have HROW : Hid (w3.ownsRow W1.heap.size 114 3 (.slice (some ⟨g, 0, none⟩) es.length cap) es.length (cellsE es)) := hrow
      have HOW : Hid (w3.ownsRow W0.heap.size 302 5 u8 acc.length (cellsS acc)) := how
      clear hrow how
      go_wp2
      go_loopw [8, 12] (fun o i wx => ∃ (j : Nat), j ≤ es.length ∧ i = .int .i64 j ∧ (wx.ownsRow W0.heap.size 302 5 o (acc ++ saids a 0 (es.take j)).length (cellsS (acc ++ saids a 0 (es.take j))) ∧ wx.ownsRow W1.heap.size 114 3 (.slice (some ⟨g, 0, none⟩) es.length cap) es.length (cellsE es)) ∧ Below W0.heap.size W0 wx) (fun _ i _ => es.length - (intOf i).toNat)
      case atStart => exact ⟨0, Nat.zero_le _, rfl, ⟨by rw [show acc ++ saids a 0 (es.take 0) = acc from by simp [saids]]; exact HOW.out, HROW.out⟩, hbx⟩
      case round =>
        obtain ⟨j, hj, rfl, ⟨how, hrow⟩, hbj⟩ := hrel
        obtain ⟨wx, rfl⟩ : ∃ wx, wx = wr := ⟨_, rfl⟩
        by_cases hje : j < es.length
        · have hll : (acc ++ saids a 0 (es.take j)).length ≤ 30000000 := by
            rw [List.length_append, saids_length]; simp; omega
          have hce := cellsE_get hje
          have y0 := (hrow.cellAt (j * 3) (by omega)).trans hce.1
          have y1 := (hrow.cellAt (j * 3 + 1) (by omega)).trans hce.2.1
          have y2 := (hrow.cellAt (j * 3 + 2) (by omega)).trans hce.2.2
          have hszj := hbj.size
          have HSX : Hid (acc ++ saids a 0 (es.take (j + 1)) = (acc ++ saids a 0 (es.take j)) ++ [⟨es[j].put, es[j].key, es[j].val, a, j⟩]) := by
            show _ = _
            rw [saids_take hje, List.append_assoc]
          clear hce
          generalize acc ++ saids a 0 (es.take j) = acc2 at *
          go_wp2_with (at_builtin; refine wpList_append_own _ rfl (.tmp 42) (.tmp 50) 256 rfl W0.heap.size 302 i0 (.agg #[.bool false, .string ⟨#[]⟩, .string ⟨#[]⟩, .int .i64 0, .int .i64 0]) 5 56 Tryz.underlying256 hi hz0 hz1 hz2 rfl (by decide) _ _ _ rfl (how.alloc _) ⟨wx.heap.size, 0, none⟩ 1 1 [.bool es[j].put, .string (S es[j].key), .string (S es[j].val), .int .i64 (a : Int), .int .i64 (j : Int)] rfl rfl (cells_five_new _ _ _ _ _ _ _) (by simp [Value.oneCell']) (by unfold maxLen; omega) (by omega) (by simp; omega) ?_)
          intro v' w4 hown' hgrow _
          go_wp2
          go_roundw
          case rel => exact ⟨j + 1, by omega, by first | rfl | go_num, ⟨by rw [HSX.out, cellsS_snoc, List.length_append]; exact hown', World.ownsRow.kept (hrow.alloc _) hgrow (own_apart hrow how (by decide))⟩, (hbj.alloc hszj _).grown hgrow (by simp; omega) (own_ge how)⟩
          case measure => first | (simp [intOf]; omega) | (simp [intOf])
        · have hje' : j = es.length := by omega
          subst hje'
          rw [List.take_length] at how
          have hla : (acc ++ saids a 0 es).length ≤ 255 * (a + k) := by
            rw [List.length_append, saids_length]; omega
          have HOW2 : Hid (wx.ownsRow W0.heap.size 302 5 u8 (acc ++ saids a 0 es).length (cellsS (acc ++ saids a 0 es))) := how
          clear how hrow
          go_wp2
          go_roundw
          case rel => exact ⟨a + k, acc ++ saids a 0 es, by first | rfl | go_num, ⟨by omega, by omega⟩, HOW2.out, hla, hbj, HR⟩
          case measure => first | (simp [intOf]; omega) | (simp [intOf])

theorem refRead_any (log : ByteArray) (w : World) (hs : log.size ≤ 100000) :
    Calls Tryz.prog 163 #[.string log] w fun e w' => ∃ v rest b sd bt, e = .returned (.tuple #[v, .int .i64 rest, .agg #[.int .i64 b, .int .i64 sd, .int .i64 bt], .bool (headB log.data.toList)]) ∧ ReadIs w' w.heap.size v rest b sd bt log.data.toList ∧ Below w.heap.size w w' := by
  cases hh : headB log.data.toList
  · have := refRead_no log w hs hh
    rwa [hh] at this
  · have := refRead_yes log w hs hh
    rwa [hh] at this
end Go.Proofs.YtdhgebdbiehchaaGreatDoor
namespace Go.Proofs.YtdhgebdbiehchaaGreatDoor
open Go.RowKit
set_option linter.unusedSimpArgs false
set_option linter.unusedVariables false

theorem ent1_key {l : List UInt8} {e : Ent} {n : Nat} (h : ent1 l = some (e, n)) : e.key.length ≤ 20 := by
  unfold ent1 at h
  split at h
  · rename_i kd k v r
    split at h
    · cases h
    · rename_i hc
      split at h
      · simp at h; obtain ⟨rfl, _⟩ := h; simp; omega
      · split at h
        · simp at h; obtain ⟨rfl, _⟩ := h; simp; omega
        · cases h
  · cases h
theorem entsF_keys (n : Nat) (l : List UInt8) (es : List Ent) (h : entsF n l = some es) : ∀ e ∈ es, e.key.length ≤ 20 := by
  induction n generalizing l es with
  | zero =>
    rw [entsF] at h
    split at h
    · cases h; simp
    · cases h
  | succ n ih =>
    rw [entsF] at h
    split at h
    · cases h; simp
    · cases he : ent1 l with
      | none => rw [he] at h; cases h
      | some x =>
        obtain ⟨e, m⟩ := x
        rw [he] at h
        simp only at h
        cases hx : entsF n (l.drop m) with
        | none => rw [hx] at h; cases h
        | some y =>
          rw [hx] at h
          cases h
          intro z hz
          rcases List.mem_cons.1 hz with rfl | hz
          · exact ent1_key he
          · exact ih _ _ hx z hz
theorem blockP_keys {log : List UInt8} {a : Nat} {blk : Int} {es : List Ent} {k : Nat} (h : blockP log a blk = some (es, k)) : ∀ e ∈ es, e.key.length ≤ 20 := by
  unfold blockP at h
  split at h
  · cases h
  · split at h
    · cases h
    · unfold blkTail at h
      split at h
      · rename_i es' hes
        split at h
        · cases h
        · simp only [Option.some.injEq, Prod.mk.injEq] at h
          obtain ⟨rfl, _⟩ := h
          exact entsF_keys _ _ _ hes
      · cases h
theorem saids_keys {a i : Nat} {es : List Ent} (h : ∀ e ∈ es, e.key.length ≤ 20) : ∀ x ∈ saids a i es, x.key.length ≤ 20 := by
  induction es generalizing i with
  | nil => simp [saids]
  | cons e es ih =>
    intro x hx
    rcases List.mem_cons.1 hx with rfl | hx
    · exact h e List.mem_cons_self
    · exact ih (fun e he => h e (List.mem_cons_of_mem _ he)) x hx
theorem readF_keys (log : List UInt8) (blk : Int) (n a : Nat) : ∀ x ∈ (readF n log blk a).1, x.key.length ≤ 20 := by
  induction n generalizing a with
  | zero => simp [readF]
  | succ n ih =>
    rw [readF]
    cases h : blockP log a blk with
    | none => simp
    | some y =>
      obtain ⟨es, k⟩ := y
      intro x hx
      rcases List.mem_append.1 hx with hx | hx
      · exact saids_keys (blockP_keys h) x hx
      · exact ih _ x hx

theorem putF_mem (f : Nat) (t : List (Option Slt)) (x : Slt) (a : Nat) (y : Slt) (h : some y ∈ putF f t x a) : some y ∈ t ∨ y = x := by
  induction f generalizing t x a with
  | zero => exact .inl h
  | succ f ih =>
    rw [putF] at h
    split at h
    · rename_i z hz
      have hm : some z ∈ t := List.mem_of_getElem? hz
      split at h
      · rcases ih _ _ _ h with h1 | rfl
        · rcases List.mem_or_eq_of_mem_set h1 with h2 | h2
          · exact .inl h2
          · right; simpa using h2
        · exact .inl hm
      · exact ih _ _ _ h
    · rcases List.mem_or_eq_of_mem_set h with h2 | h2
      · exact .inl h2
      · right; simpa using h2
theorem foldl_put_mem (xs : List Slt) (t : List (Option Slt)) (y : Slt) (h : some y ∈ xs.foldl putL t) : some y ∈ t ∨ y ∈ xs := by
  induction xs generalizing t with
  | nil => exact .inl h
  | cons x xs ih =>
    rw [List.foldl_cons] at h
    rcases ih _ h with h1 | h1
    · rcases putF_mem _ _ _ _ _ h1 with h2 | rfl
      · exact .inl h2
      · exact .inr List.mem_cons_self
    · exact .inr (List.mem_cons_of_mem _ h1)
theorem fillL_mem {n : Nat} {xs : List Slt} {y : Slt} (h : some y ∈ fillL n xs) : y ∈ xs := by
  rcases foldl_put_mem _ _ _ h with h | h
  · simp at h
  · exact h

theorem keepQ {g i j k : Nat} {w wx w' : World} {a b c : Option Value} {m : Nat} (hb : Below wx.heap.size wx w') (h : (wx.cell? ⟨g, i, none⟩ = a ∧ wx.cell? ⟨g, j, none⟩ = b ∧ wx.cell? ⟨g, k, none⟩ = c) ∧ Below m w wx ∧ m ≤ wx.heap.size) (hp : g < m) :
    (w'.cell? ⟨g, i, none⟩ = a ∧ w'.cell? ⟨g, j, none⟩ = b ∧ w'.cell? ⟨g, k, none⟩ = c) ∧ Below m w w' ∧ m ≤ w'.heap.size := keepA h hp hp hp hb
theorem cat_run (a b : ByteArray) (h : a.size + b.size ≤ 1000000) : ∀ wx : World, Sem.run Tryz.prog (binOp .add 9 (.string a) (.string b)) wx = .ok (.string (a ++ b)) wx := by
  intro wx
  simp [go_sem]
  omega

def indexV (r : Option (List UInt8)) : Value := match r with
  | none => .tuple #[.string ⟨#[]⟩, .int .i64 3]
  | some l => .tuple #[.string (S l), .int .i64 0]

set_option maxRecDepth 100000 in
set_option maxHeartbeats 3200000 in
theorem refIndex_any (log : ByteArray) (w : World) (hs : log.size ≤ 140737488351232) :
    Calls Tryz.prog 115 #[.string log] w fun e w' => e = .returned (indexV (indexS log.data.toList)) ∧ Below w.heap.size w w' := by
  have hl : log.data.toList.length = log.size := by simp
  by_cases h1 : 100000 < log.size
  · have HN : Hid (indexS log.data.toList = none) := by
      show _ = _
      rw [indexS, hl, if_pos h1]
    go_enter Tryz.func115, Tryz.ntmps115
    go_wp2
    go_ret2
    exact ⟨by rw [HN.out]; rfl, Below.refl _ _⟩
  · have HI : Hid (indexS log.data.toList = _) := indexS.eq_1 log.data.toList
    go_enter Tryz.func115, Tryz.ntmps115
    go_wp2_with fail
    refine (refRead_any log _ (by omega)).mono ?_
    rintro e w1 ⟨v, rest, b, sd, bt, rfl, hRI, hb1⟩
    cases hh : headB log.data.toList
    · have HN : Hid (indexS log.data.toList = none) := by
        show _ = _
        rw [HI.out, hl, if_neg h1, if_pos hh]
      obtain ⟨rfl, rfl⟩ := hRI.2 hh
      clear HI hRI hh
      go_wp2
      go_ret2
      exact ⟨by rw [HN.out]; rfl, hb1.alloc hb1.size _⟩
    · obtain ⟨rfl, rfl, rfl, rfl, hrow, hrl⟩ := hRI.1 hh
      have hkeys : ∀ x ∈ (readL log.data.toList (hdBlk log.data.toList) 14).1, x.key.length ≤ 20 := readF_keys _ _ _ _
      have hend : (readL log.data.toList (hdBlk log.data.toList) 14).2 ≤ log.size := by
        have h14 : 14 ≤ log.size := by
          simp only [headB, Bool.and_eq_true, decide_eq_true_eq] at hh
          omega
        have := (readF_rise log.data.toList (hdBlk log.data.toList) (log.data.toList.length - 14) 14).2.2.2 (by omega)
        rw [hl] at this
        unfold readL
        rw [hl]; exact this
      have hplc : ∀ x ∈ (readL log.data.toList (hdBlk log.data.toList) 14).1, x.blk < log.size ∧ x.no < 255 := fun x hx => by
        have := (readF_rise log.data.toList (hdBlk log.data.toList) (log.data.toList.length - 14) 14).2.1 x hx
        omega
      obtain ⟨⟨v0, v1⟩, v2, v3⟩ := head_well hh
      have HI2 : Hid (indexS log.data.toList = if (readL log.data.toList (hdBlk log.data.toList) 14).2 < log.size then none else if 2000 < (liveL (readL log.data.toList (hdBlk log.data.toList) 14).1).length then none else some (indexB log.data.toList (hdSeed log.data.toList) (hdBits log.data.toList) (liveL (readL log.data.toList (hdBlk log.data.toList) 14).1))) := by
        show _ = _
        rw [HI.out, hl, if_neg h1, if_neg (by rw [hh]; decide)]
      clear hRI HI hh
      rw [hl]
      generalize hdBlk log.data.toList = B at *
      generalize hdSeed log.data.toList = sdn at *
      generalize hdBits log.data.toList = btn at *
      generalize readL log.data.toList B 14 = R at *
      obtain ⟨sds, en⟩ := R
      dsimp only at *
      by_cases h2 : en < log.size
      · have HN : Hid (indexS log.data.toList = none) := by
          show _ = _
          rw [HI2.out, if_pos h2]
        have t1 : (0 : Int) < (log.size : Int) - (en : Int) := by omega
        clear HI2 hrow hkeys hplc
        go_wp2
        go_ret2
        exact ⟨by rw [HN.out]; rfl, hb1.alloc hb1.size _⟩
      · have t1 : ¬ (0 : Int) < (log.size : Int) - (en : Int) := by omega
        have HI3 : Hid (indexS log.data.toList = if 2000 < (liveL sds).length then none else some (indexB log.data.toList sdn btn (liveL sds))) := by
          show _ = _
          rw [HI2.out, if_neg h2]
        clear HI2
        obtain ⟨pv, cv, rfl⟩ := own_len hrow
        have HROW : Hid (w1.ownsRow w.heap.size 302 5 (.slice pv sds.length cv) sds.length (cellsS sds)) := hrow
        clear hrow
        go_wp2_with fail
        refine (refLive_any _ sds _ w.heap.size (HROW.out.alloc _) hrl).mono ?_
        rintro e w2 ⟨v', rfl, hrow2, hb2⟩
        have hz2 : w1.heap.size < w2.heap.size := by have := hb2.size; simp at this; omega
        have hb02 : Below w.heap.size w w2 := (hb1.alloc hb1.size _).trans (hb2.mono (by have := hb1.size; simp; omega))
        have d0 : w2.cell? ⟨w1.heap.size, 0, none⟩ = some (.int .i64 B) := by rw [hb2.cell (p := ⟨w1.heap.size, 0, none⟩) (by simp)]; simp
        have d1 : w2.cell? ⟨w1.heap.size, 1, none⟩ = some (.int .i64 sdn) := by rw [hb2.cell (p := ⟨w1.heap.size, 1, none⟩) (by simp)]; simp
        have d2 : w2.cell? ⟨w1.heap.size, 2, none⟩ = some (.int .i64 btn) := by rw [hb2.cell (p := ⟨w1.heap.size, 2, none⟩) (by simp)]; simp
        have hkl : ∀ x ∈ liveL sds, x.key.length ≤ 100000 := fun x hx => Nat.le_trans (hkeys x (liveL_mem hx).1) (by omega)
        have hsl : ∀ y : Slt, some y ∈ tableOf sdn btn (liveL sds) → y.num < 4294967296 ∧ y.blk ≤ 100000 ∧ y.no ≤ 255 := fun y hy => by
          obtain ⟨x, hx, rfl⟩ := List.mem_map.1 (fillL_mem hy)
          have hr := numberI_range sdn btn x.key (by omega) v3
          have hp := hplc x (liveL_mem hx).1
          simp only [sltOf]
          omega
        clear hkeys HROW hb2 hplc
        generalize liveL sds = live at *
        obtain ⟨pv2, cv2, rfl⟩ := own_len hrow2
        have HROW2 : Hid (w2.ownsRow (w1.alloc (.cells #[.int .i64 (B : Int), .int .i64 (sdn : Int), .int .i64 (btn : Int)] 29)).heap.size 302 5 (.slice pv2 live.length cv2) live.length (cellsS live)) := hrow2
        clear hrow2
        by_cases h3 : 2000 < live.length
        · have HN : Hid (indexS log.data.toList = none) := by
            show _ = _
            rw [HI3.out, if_pos h3]
          clear HI3
          go_wp2
          go_ret2
          exact ⟨by rw [HN.out]; rfl, hb02⟩
        · have HN : Hid (indexS log.data.toList = some (indexB log.data.toList sdn btn live)) := by
            show _ = _
            rw [HI3.out, if_neg h3]
          clear HI3
          go_wp2_with fail
          refine (refSlots_any _ live _ _ _ _ _ HROW2.out (by omega) (by omega) (by omega) (by omega) (by omega) hkl).mono ?_
          rintro e w3 ⟨g, rfl, hrow3, hb3⟩
          have hn1 := sizeL_bound (show live.length ≤ 2000 by omega)
          have htl : (tableOf sdn btn live).length = sizeL live.length := fillL_length _ _
          have HIX : Hid (indexB log.data.toList sdn btn live = sealL (frontB live.length (sizeL live.length) (farP (sizeL live.length) (tableOf sdn btn live) (sizeL live.length)) log.data.toList.length (sumI log.data.toList).toNat) ++ sealL (tabB (tableOf sdn btn live))) := rfl
          generalize sizeL live.length = n at *
          generalize tableOf sdn btn live = t at *
          have hb03 : Below w.heap.size w w3 := hb02.trans (hb3.mono hb02.size)
          clear hb02 hb3 d0 d1 d2 HROW2 hkl
          go_wp2
          go_loopw [10, 11, 12] (fun fr sv i wr => ∃ (k : Nat) (st : ByteArray), k ≤ n ∧ i = .int .i64 k ∧ fr = .int .i64 (farP n t k : Nat) ∧ sv = .string st ∧ Hid (st = S (tabB (t.take k))) ∧ st.size = 10 * k ∧ wr.ownsRow w2.heap.size 263 5 (.slice (some ⟨g, 0, none⟩) n n) n (cellsT n t) ∧ Below w.heap.size w wr) (fun _ _ i _ => n - (intOf i).toNat)
          case atStart => exact ⟨0, ⟨#[]⟩, Nat.zero_le _, rfl, rfl, rfl, rfl, rfl, hrow3, hb03⟩
          case round =>
            obtain ⟨k, st, hk, rfl, rfl, rfl, HST, hstz, hrow, hb⟩ := hrel
            clear hrow3 hb03
            have hfar := farP_lt (n := n) (by omega) t k
            by_cases hkn : k < n
            · have hta : t[k]? = some t[k] := List.getElem?_eq_getElem (by omega)
              have HTK : Hid (tabB (t.take (k + 1)) = tabB (t.take k) ++ sltB t[k]) := by
                show _ = _
                rw [List.take_succ_eq_append_getElem (by omega), tabB_snoc]
              cases hy : t[k] with
              | none =>
                rw [hy] at hta HTK
                have z0 := (hrow.cellAt (k * 5) (by omega)).trans (cellsT_at hta 0 (by omega))
                simp only [sltC, List.getElem?_cons_zero, List.getElem?_cons_succ] at z0
                have HFP : Hid (farP n t (k + 1) = farP n t k) := farP_none hta
                clear hy hta
                have HROWK : Hid (wr.ownsRow w2.heap.size 263 5 (.slice (some ⟨g, 0, none⟩) n n) n (cellsT n t)) := hrow
                clear hrow
                go_wp2_with fail
                refine (low_any 0 10 _ (by omega) (by omega) (by omega)).mono ?_
                rintro e w4 ⟨rfl, hb4⟩
                rw [show (0 : Int).toNat = 0 from rfl]
                have hz10 := low_sz 0 10
                have HAP : Hid (st ++ S (lowL 0 10) = S (tabB (t.take (k + 1)))) := by
                  show _ = _
                  rw [HST.out, S_append, HTK.out]; rfl
                generalize S (lowL 0 10) = lz at *
                generalize farP n t k = fk at *
                go_wp2
                go_roundw
                case rel => exact ⟨k + 1, st ++ lz, by omega, by first | rfl | go_num, by rw [HFP.out], rfl, HAP.out, by simp; omega, own_below HROWK.out hb4 (Nat.le_refl _), hb.trans (hb4.mono hb.size)⟩
                case measure => first | (simp [intOf]; omega) | (simp [intOf])
              | some y =>
                rw [hy] at hta HTK
                obtain ⟨z0, z1, z2, z3, z4⟩ := slot_at hrow hta (by omega)
                obtain ⟨u1, u2, u3⟩ := hsl y (List.mem_of_getElem? hta)
                have hgr : g < wr.heap.size := by
                  obtain ⟨g', c', he, _, hgw', _⟩ := own_cellsN hrow (by omega)
                  simp at he; omega
                have HFP : Hid (farP n t (k + 1) = max (farP n t k) (awayN n y k)) := farP_some hta
                have hawl := awayN_lt (n := n) (by omega) y k
                have HAY := refAway_any n y k
                clear hy hta hsl
                have HROWK : Hid (wr.ownsRow w2.heap.size 263 5 (.slice (some ⟨g, 0, none⟩) n n) n (cellsT n t)) := hrow
                clear hrow
                have hmy : y.num % n < n := Nat.mod_lt _ (by omega)
                generalize y.num % n = yq at *
                generalize awayN n y k = d at *
                generalize farP n t k = fk at *
                go_wp2_with fail
                refine (HAY _ (by omega) (by omega)).mono ?_
                rintro e w4 ⟨rfl, hb4⟩
                clear HAY
                have x1 := (hb4.cell (p := ⟨g, k * 5 + 1, none⟩) hgr).trans z1
                have x2 := (hb4.cell (p := ⟨g, k * 5 + 2, none⟩) hgr).trans z2
                have x3 := (hb4.cell (p := ⟨g, k * 5 + 3, none⟩) hgr).trans z3
                have hg4 : g < w4.heap.size := Nat.lt_of_lt_of_le hgr hb4.size
                have HSTZ : Hid (st.size = 10 * k) := hstz
                have hs6 : st.size ≤ 60000 := by omega
                have HROW4 : Hid (w4.ownsRow w2.heap.size 263 5 (.slice (some ⟨g, 0, none⟩) n n) n (cellsT n t)) := own_below HROWK.out hb4 (Nat.le_refl _)
                have HB4 : Hid (Below w.heap.size w w4) := hb.trans (hb4.mono hb.size)
                obtain ⟨o1, ho1⟩ : ∃ o, o = S (lowL 1 1) := ⟨_, rfl⟩
                obtain ⟨o2, ho2⟩ : ∃ o, o = S (lowL y.num 4) := ⟨_, rfl⟩
                obtain ⟨o3, ho3⟩ : ∃ o, o = S (lowL y.blk 4) := ⟨_, rfl⟩
                obtain ⟨o4, ho4⟩ : ∃ o, o = S (lowL y.no 1) := ⟨_, rfl⟩
                have zz1 : o1.size = 1 := by rw [ho1, low_sz]
                have zz2 : o2.size = 4 := by rw [ho2, low_sz]
                have zz3 : o3.size = 4 := by rw [ho3, low_sz]
                have zz4 : o4.size = 1 := by rw [ho4, low_sz]
                have L1 : Hid (∀ wx : World, Calls Tryz.prog 110 #[.int .i64 1, .int .i64 1] wx fun e w' => e = .returned (.string o1) ∧ Below wx.heap.size wx w') := fun wx => by
                  rw [ho1]; exact low_any 1 1 wx (by omega) (by omega) (by omega)
                have L2 : Hid (∀ wx : World, Calls Tryz.prog 110 #[.int .i64 (y.num : Int), .int .i64 4] wx fun e w' => e = .returned (.string o2) ∧ Below wx.heap.size wx w') := fun wx => by
                  rw [ho2]; have := low_any (y.num : Int) 4 wx (by omega) (by omega) (by omega); rwa [Int.toNat_natCast] at this
                have L3 : Hid (∀ wx : World, Calls Tryz.prog 110 #[.int .i64 (y.blk : Int), .int .i64 4] wx fun e w' => e = .returned (.string o3) ∧ Below wx.heap.size wx w') := fun wx => by
                  rw [ho3]; have := low_any (y.blk : Int) 4 wx (by omega) (by omega) (by omega); rwa [Int.toNat_natCast] at this
                have L4 : Hid (∀ wx : World, Calls Tryz.prog 110 #[.int .i64 (y.no : Int), .int .i64 1] wx fun e w' => e = .returned (.string o4) ∧ Below wx.heap.size wx w') := fun wx => by
                  rw [ho4]; have := low_any (y.no : Int) 1 wx (by omega) (by omega) (by omega); rwa [Int.toNat_natCast] at this
                have HAP : Hid ((((st ++ o1) ++ o2) ++ o3) ++ o4 = S (tabB (t.take (k + 1)))) := by
                  show _ = _
                  rw [ho1, ho2, ho3, ho4, HST.out, S_append, S_append, S_append, S_append, HTK.out]
                  congr 1
                  simp [sltB, List.append_assoc]
                have HZ : Hid ((((st ++ o1) ++ o2) ++ o3 ++ o4).size = 10 * (k + 1)) := by
                  show _ = _
                  simp [zz1, zz2, zz3, zz4]; omega
                have q0 : ¬ 9223372036854775807 < st.size + o1.size := by omega
                have p0 : st.size + o1.size ≤ 9223372036854775807 := by omega
                have q1 : ¬ 9223372036854775807 < st.size + o1.size + o2.size := by omega
                have p1 : st.size + o1.size + o2.size ≤ 9223372036854775807 := by omega
                have q2 : ¬ 9223372036854775807 < st.size + o1.size + o2.size + o3.size := by omega
                have p2 : st.size + o1.size + o2.size + o3.size ≤ 9223372036854775807 := by omega
                have q3 : ¬ 9223372036854775807 < st.size + o1.size + o2.size + o3.size + o4.size := by omega
                have p3 : st.size + o1.size + o2.size + o3.size + o4.size ≤ 9223372036854775807 := by omega
                clear z0 z1 z2 z3 z4 hb4 hb HROWK hstz hmy HTK ho1 ho2 ho3 ho4 HST hs6 zz1 zz2 zz3 zz4 u1 u2 u3 hgr
                have HFM : Hid (fk < d → farP n t (k + 1) = d) := fun h => by rw [HFP.out]; omega
                have HFN : Hid (¬ fk < d → farP n t (k + 1) = fk) := fun h => by rw [HFP.out]; omega
                clear HFP
                have HKN : Hid (k < n ∧ n ≤ 5000) := ⟨hkn, hn1.2⟩
                have hk5 : k ≤ 5000 := by omega
                clear hs hl h1 v0 v1 v2 v3 hrl hend h2 t1 hz2 h3 hn1 htl hk hawl hfar
                obtain ⟨fx, hfx⟩ : ∃ fx, fx = farP n t (k + 1) := ⟨_, rfl⟩
                have HFX : Hid (fx = farP n t (k + 1)) := hfx
                clear hfx
                by_cases hdf : fk < d
                · have HFY : Hid (d = farP n t (k + 1)) := (HFM.out hdf).symm
                  go_wp2_with fail
                  go_region_held3 (fun w' => (w'.cell? ⟨g, k * 5 + 1, none⟩ = some (.int .i64 (y.num : Int)) ∧ w'.cell? ⟨g, k * 5 + 2, none⟩ = some (.int .i64 (y.blk : Int)) ∧ w'.cell? ⟨g, k * 5 + 3, none⟩ = some (.int .i64 (y.no : Int))) ∧ Below w4.heap.size w4 w' ∧ w4.heap.size ≤ w'.heap.size) (first | (exact keepQ hb8 (by assumption) hg4) | (exact keepQ hb7 (by assumption) hg4) | (exact keepQ hb6 (by assumption) hg4) | (exact keepQ hb5 (by assumption) hg4) | (exact ⟨⟨x1, x2, x3⟩, (Below.refl _ _).drew, Nat.le_refl _⟩)) (first | (go_at_call_of 110 (Value.int .i64 (y.num : Int)); refine (L2.out _).mono ?_; rintro e w' ⟨rfl, hb6⟩) | (go_at_call_of 110 (Value.int .i64 (y.blk : Int)); refine (L3.out _).mono ?_; rintro e w' ⟨rfl, hb7⟩) | (go_at_call_of 110 (Value.int .i64 (y.no : Int)); refine (L4.out _).mono ?_; rintro e w' ⟨rfl, hb8⟩) | (go_at_call_of 110 (Value.int .i64 1); refine (L1.out _).mono ?_; rintro e w' ⟨rfl, hb5⟩))
                  have hx := ‹(_ ∧ _) ∧ Below _ _ _ ∧ _›
                  clear q0 q1 q2 q3 p0 p1 p2 p3
                  go_wp2
                  go_roundw
                  case rel => exact ⟨k + 1, _, HKN.out.1, by first | rfl | go_num, by rw [← HFY.out], rfl, HAP.out, HZ.out, own_below HROW4.out hx.2.1 (Nat.le_refl _), HB4.out.trans (hx.2.1.mono HB4.out.size)⟩
                  case measure => first | (simp [intOf]; omega) | (simp [intOf])
                · have HFY : Hid (fk = farP n t (k + 1)) := (HFN.out hdf).symm
                  go_wp2_with fail
                  go_region_held3 (fun w' => (w'.cell? ⟨g, k * 5 + 1, none⟩ = some (.int .i64 (y.num : Int)) ∧ w'.cell? ⟨g, k * 5 + 2, none⟩ = some (.int .i64 (y.blk : Int)) ∧ w'.cell? ⟨g, k * 5 + 3, none⟩ = some (.int .i64 (y.no : Int))) ∧ Below w4.heap.size w4 w' ∧ w4.heap.size ≤ w'.heap.size) (first | (exact keepQ hb8 (by assumption) hg4) | (exact keepQ hb7 (by assumption) hg4) | (exact keepQ hb6 (by assumption) hg4) | (exact keepQ hb5 (by assumption) hg4) | (exact ⟨⟨x1, x2, x3⟩, (Below.refl _ _).drew, Nat.le_refl _⟩)) (first | (go_at_call_of 110 (Value.int .i64 (y.num : Int)); refine (L2.out _).mono ?_; rintro e w' ⟨rfl, hb6⟩) | (go_at_call_of 110 (Value.int .i64 (y.blk : Int)); refine (L3.out _).mono ?_; rintro e w' ⟨rfl, hb7⟩) | (go_at_call_of 110 (Value.int .i64 (y.no : Int)); refine (L4.out _).mono ?_; rintro e w' ⟨rfl, hb8⟩) | (go_at_call_of 110 (Value.int .i64 1); refine (L1.out _).mono ?_; rintro e w' ⟨rfl, hb5⟩))
                  have hx := ‹(_ ∧ _) ∧ Below _ _ _ ∧ _›
                  clear q0 q1 q2 q3 p0 p1 p2 p3
                  go_wp2
                  go_roundw
                  case rel => exact ⟨k + 1, _, HKN.out.1, by first | rfl | go_num, by rw [← HFY.out], rfl, HAP.out, HZ.out, own_below HROW4.out hx.2.1 (Nat.le_refl _), HB4.out.trans (hx.2.1.mono HB4.out.size)⟩
                  case measure => first | (simp [intOf]; omega) | (simp [intOf])
            · have hke : k = n := by omega
              subst hke
              have hl2 : (tabB (t.take k)).length = st.size := by
                rw [HST.out, S_size]
              rw [show t.take k = t from List.take_of_length_le (by omega)] at HST hl2
              have hM := Int.eq_ofNat_of_zero_le (show 0 ≤ fnv F0 log.data.toList % 4294967296 from Int.emod_nonneg _ (by decide))
              have hM2 : fnv F0 log.data.toList % 4294967296 < 4294967296 := Int.emod_lt_of_pos _ (by decide)
              have hsum := sum_any log
              obtain ⟨M, hM⟩ := hM
              rw [hM] at hsum hM2
              have HM : Hid ((sumI log.data.toList).toNat = M) := by
                show _ = _
                rw [sumI, hM]; rfl
              have HSUM : Hid _ := hsum
              clear hM hsum
              generalize hfk : farP k t k = fk at *
              have HFK : Hid (farP k t k = fk) := hfk
              clear hfk
              have hsz := st.size
              have y1 := low_sz live.length 2
              have y2 := low_sz k 2
              have y3 := low_sz fk 2
              have y4 := low_sz log.size 4
              have y5 := low_sz M 4
              have y0 : (⟨#[73, 88]⟩ : ByteArray).size = 2 := rfl
              obtain ⟨o1, ho1⟩ : ∃ o, o = S (lowL live.length 2) := ⟨_, rfl⟩
              obtain ⟨o2, ho2⟩ : ∃ o, o = S (lowL k 2) := ⟨_, rfl⟩
              obtain ⟨o3, ho3⟩ : ∃ o, o = S (lowL fk 2) := ⟨_, rfl⟩
              obtain ⟨o4, ho4⟩ : ∃ o, o = S (lowL log.size 4) := ⟨_, rfl⟩
              obtain ⟨o5, ho5⟩ : ∃ o, o = S (lowL M 4) := ⟨_, rfl⟩
              rw [← ho1] at y1
              rw [← ho2] at y2
              rw [← ho3] at y3
              rw [← ho4] at y4
              rw [← ho5] at y5
              have L1 : Hid (∀ wx : World, Calls Tryz.prog 110 #[.int .i64 (live.length : Int), .int .i64 2] wx fun e w' => e = .returned (.string o1) ∧ Below wx.heap.size wx w') := fun wx => by
                rw [ho1]; have := low_any (live.length : Int) 2 wx (by omega) (by omega) (by omega); rwa [Int.toNat_natCast] at this
              have L2 : Hid (∀ wx : World, Calls Tryz.prog 110 #[.int .i64 (k : Int), .int .i64 2] wx fun e w' => e = .returned (.string o2) ∧ Below wx.heap.size wx w') := fun wx => by
                rw [ho2]; have := low_any (k : Int) 2 wx (by omega) (by omega) (by omega); rwa [Int.toNat_natCast] at this
              have L3 : Hid (∀ wx : World, Calls Tryz.prog 110 #[.int .i64 (fk : Int), .int .i64 2] wx fun e w' => e = .returned (.string o3) ∧ Below wx.heap.size wx w') := fun wx => by
                rw [ho3]; have := low_any (fk : Int) 2 wx (by omega) (by omega) (by omega); rwa [Int.toNat_natCast] at this
              have L4 : Hid (∀ wx : World, Calls Tryz.prog 110 #[.int .i64 (log.size : Int), .int .i64 4] wx fun e w' => e = .returned (.string o4) ∧ Below wx.heap.size wx w') := fun wx => by
                rw [ho4]; have := low_any (log.size : Int) 4 wx (by omega) (by omega) (by omega); rwa [Int.toNat_natCast] at this
              have L5 : Hid (∀ wx : World, Calls Tryz.prog 110 #[.int .i64 (M : Int), .int .i64 4] wx fun e w' => e = .returned (.string o5) ∧ Below wx.heap.size wx w') := fun wx => by
                rw [ho5]; have := low_any (M : Int) 4 wx (by omega) (by omega) (by omega); rwa [Int.toNat_natCast] at this
              have HFR : Hid (((((((⟨#[73, 88]⟩ : ByteArray) ++ o1) ++ o2) ++ o3) ++ o4) ++ o5) = S (frontB live.length k fk log.data.toList.length (sumI log.data.toList).toNat)) := by
                show _ = _
                rw [ho1, ho2, ho3, ho4, ho5, HM.out, hl, show (⟨#[73, 88]⟩ : ByteArray) = S [73, 88] from rfl, S_append, S_append, S_append, S_append, S_append]
                rfl
              clear ho1 ho2 ho3 ho4 ho5
              have hbx : Hid (Below w.heap.size w wr) := hb
              clear hb hrow hsl
              have q0 : ¬ 9223372036854775807 < 2 + o1.size := by omega
              have q1 : ¬ 9223372036854775807 < 2 + o1.size + o2.size := by omega
              have q2 : ¬ 9223372036854775807 < 2 + o1.size + o2.size + o3.size := by omega
              have q3 : ¬ 9223372036854775807 < 2 + o1.size + o2.size + o3.size + o4.size := by omega
              have q4 : ¬ 9223372036854775807 < 2 + o1.size + o2.size + o3.size + o4.size + o5.size := by omega
              have hsz16 : ((((((⟨#[73, 88]⟩ : ByteArray) ++ o1) ++ o2) ++ o3) ++ o4) ++ o5).size = 16 := by
                rw [HFR.out, S_size, frontB_length]
              go_wp2_with fail
              refine (L1.out _).mono ?_
              rintro e a1 ⟨rfl, g1⟩
              go_wp2_with fail
              refine (L2.out _).mono ?_
              rintro e a2 ⟨rfl, g2⟩
              go_wp2_with fail
              refine (L3.out _).mono ?_
              rintro e a3 ⟨rfl, g3⟩
              go_wp2_with fail
              refine (L4.out _).mono ?_
              rintro e a4 ⟨rfl, g4⟩
              go_wp2_with fail
              refine (HSUM.out _ (by omega)).mono ?_
              rintro e a5 ⟨rfl, rfl⟩
              go_wp2_with fail
              refine (L5.out _).mono ?_
              rintro e a6 ⟨rfl, g6⟩
              have HBB : Hid (Below w.heap.size w a6) := ((((hbx.out.trans (g1.mono hbx.out.size)).trans (g2.mono (Nat.le_trans hbx.out.size g1.size))).trans (g3.mono (Nat.le_trans (Nat.le_trans hbx.out.size g1.size) g2.size))).trans (g4.mono (Nat.le_trans (Nat.le_trans (Nat.le_trans hbx.out.size g1.size) g2.size) g3.size))).trans (g6.mono (Nat.le_trans (Nat.le_trans (Nat.le_trans (Nat.le_trans hbx.out.size g1.size) g2.size) g3.size) g4.size))
              clear g1 g2 g3 g4 g6 L1 L2 L3 L4 L5 HSUM
              go_wp2_with fail
              refine (sealed_any _ _ (by omega)).mono ?_
              rintro e a7 ⟨rfl, g7⟩
              rw [HFR.out, S_data]
              have z7 : (S (sealL (frontB live.length k fk log.data.toList.length (sumI log.data.toList).toNat))).size = 20 := by rw [S_size, sealL_length, frontB_length]
              have HE1 : Hid (S (sealL (frontB live.length k fk log.data.toList.length (sumI log.data.toList).toNat)) ++ S (sealL (tabB t)) = S (indexB log.data.toList sdn btn live)) := by
                show _ = _
                rw [S_append, HIX.out]
              generalize S (sealL (frontB live.length k fk log.data.toList.length (sumI log.data.toList).toNat)) = F1 at *
              go_wp2_with fail
              refine (sealed_any st _ (by omega)).mono ?_
              rintro e a8 ⟨rfl, g8⟩
              rw [show st.data.toList = tabB t by rw [HST.out, S_data]]
              have z8 : (S (sealL (tabB t))).size ≤ 60000 := by rw [S_size, sealL_length]; omega
              generalize S (sealL (tabB t)) = F2 at *
              have HBE : Hid (Below w.heap.size w a8) := (HBB.out.trans (g7.mono HBB.out.size)).trans (g8.mono (Nat.le_trans HBB.out.size g7.size))
              clear g7 g8 q0 q1 q2 q3 q4
              go_wp2
              go_ret2
              exact ⟨by rw [HN.out, HE1.out]; rfl, HBE.out⟩
end Go.Proofs.YtdhgebdbiehchaaGreatDoor
namespace Go.Proofs.YtdhgebdbiehchaaGreatDoor
open Go.RowKit
set_option linter.unusedSimpArgs false
set_option linter.unusedVariables false

theorem info_rent : (Tryz.prog.info? 106).map (fun i => (i.zero, i.size, i.bytes)) = some (some (.agg #[.bool false, .string ⟨#[]⟩, .string ⟨#[]⟩]), 3, 40) := by kernel_rfl

/-- So many entries, and nothing behind them. -/
def entsN : Nat → List UInt8 → Option (List Ent)
  | 0, l => if l.isEmpty then some [] else none
  | n + 1, l => match ent1 l with
    | none => none
    | some (e, m) => (entsN n (l.drop m)).map (e :: ·)
theorem entsN_some {n : Nat} {l : List UInt8} {e : Ent} {m : Nat} (h : ent1 l = some (e, m)) : entsN (n + 1) l = (entsN n (l.drop m)).map (e :: ·) := by rw [entsN, h]
theorem entsN_none {n : Nat} {l : List UInt8} (h : ent1 l = none) : entsN (n + 1) l = none := by rw [entsN, h]
theorem entsN_iff (n : Nat) (l : List UInt8) (es : List Ent) : entsN n l = some es ↔ ents l = some es ∧ es.length = n := by
  induction n generalizing l es with
  | zero =>
    unfold entsN
    constructor
    · intro h
      split at h
      · rename_i he
        have : l = [] := by simpa using he
        subst this
        cases h
        exact ⟨rfl, rfl⟩
      · cases h
    · rintro ⟨h1, h2⟩
      have : es = [] := List.eq_nil_of_length_eq_zero h2
      subst this
      by_cases hl : l = []
      · subst hl; rfl
      · cases he : ent1 l with
        | none => rw [ents_none hl he] at h1; cases h1
        | some x =>
          obtain ⟨e, m⟩ := x
          rw [ents_some he] at h1
          cases hx : ents (l.drop m) with
          | none => rw [hx] at h1; cases h1
          | some y => rw [hx] at h1; cases h1
  | succ n ih =>
    cases he : ent1 l with
    | none =>
      rw [entsN_none he]
      constructor
      · intro h; cases h
      · rintro ⟨h1, h2⟩
        by_cases hl : l = []
        · subst hl
          rw [ents_nil] at h1
          cases h1
          cases h2
        · rw [ents_none hl he] at h1; cases h1
    | some x =>
      obtain ⟨e, m⟩ := x
      rw [entsN_some he, ents_some he]
      constructor
      · intro h
        cases hx : entsN n (l.drop m) with
        | none => rw [hx] at h; cases h
        | some y =>
          rw [hx] at h
          cases h
          obtain ⟨h1, h2⟩ := (ih (l.drop m) y).1 hx
          rw [h1]
          exact ⟨rfl, by simp [h2]⟩
      · rintro ⟨h1, h2⟩
        cases hx : ents (l.drop m) with
        | none => rw [hx] at h1; cases h1
        | some y =>
          rw [hx] at h1
          cases h1
          rw [(ih (l.drop m) y).2 ⟨hx, by simpa using h2⟩]
          rfl

/-- What readEntries answers. -/
def EntsNIs (w : World) (base : Nat) (v : Value) (ok : Bool) (r : Option (List Ent)) : Prop :=
  match r with
  | none => ok = false ∧ ∃ p n c, v = .slice p n c
  | some es => ok = true ∧ w.ownsRow base 106 3 v es.length (cellsE es)

theorem entR_at {l : List UInt8} : (ent1 l = none ∧ entR l = .tuple #[.agg #[.bool false, .string ⟨#[]⟩, .string ⟨#[]⟩], .string ⟨#[]⟩, .bool false]) ∨ (∃ e n, ent1 l = some (e, n) ∧ entR l = .tuple #[.agg #[.bool e.put, .string (S e.key), .string (S e.val)], .string (S (l.drop n)), .bool true]) := by
  cases h : ent1 l with
  | none => exact .inl ⟨rfl, entR_none h⟩
  | some x =>
    obtain ⟨e, n⟩ := x
    exact .inr ⟨e, n, rfl, entR_some h⟩

set_option maxRecDepth 100000 in
set_option maxHeartbeats 3200000 in
theorem readEntries_any (s : ByteArray) (count : Nat) (w : World) (hs : s.size ≤ 100000000) (hc : count ≤ 255) :
    Calls Tryz.prog 187 #[.string s, .int .i64 count] w fun e w' => ∃ v ok, e = .returned (.tuple #[v, .bool ok]) ∧ EntsNIs w' w.heap.size v ok (entsN count s.data.toList) ∧ Below w.heap.size w w' := by
  obtain ⟨i0, hi, hz0, hz1, hz2⟩ := info_parts info_rent
  go_enter Tryz.func187, Tryz.ntmps187
  go_wp2_with (at_make; refine wpList_make_own _ rfl _ (.tmp 10) 160 rfl w.heap.size 106 i0 (.agg #[.bool false, .string ⟨#[]⟩, .string ⟨#[]⟩]) 3 Tryz.underlying160 hi hz0 hz1 .i64 .i64 _ count rfl rfl rfl ?_ ?_ ?_ ?_)
  · rw [hz2]; omega
  · unfold maxLen; omega
  · omega
  · intro w1 hown hgr
    have hb1 : Below w.heap.size w w1 := (Below.refl _ _).grown hgr (Nat.le_refl _) (fun _ h => by cases h)
    clear hgr
    go_wp2
    go_loopw [0, 6, 13] (fun s' o i wr => ∃ (k : Nat) (t : ByteArray) (acc : List Ent), k ≤ count ∧ s' = .string t ∧ t.size ≤ s.size ∧ i = .int .i64 k ∧ wr.ownsRow w.heap.size 106 3 o acc.length (cellsE acc) ∧ acc.length = k ∧ Below w.heap.size w wr ∧ Hid (entsN count s.data.toList = (entsN (count - k) t.data.toList).map (acc ++ ·))) (fun _ _ i _ => count - (intOf i).toNat)
    case atStart => exact ⟨0, s, [], Nat.zero_le _, rfl, Nat.le_refl _, rfl, hown, rfl, hb1, by simp [Hid]⟩
    case round =>
      obtain ⟨k, t, acc, hk, rfl, hts, rfl, ho, hacc, hb, HE⟩ := hrel
      have hsz := hb.size
      have HACC : Hid (acc.length = k) := hacc
      have hal : acc.length ≤ 255 := by omega
      clear hacc
      by_cases hlt : k < count
      · have hck : count - k = (count - (k + 1)) + 1 := by omega
        go_wp2_with fail
        refine (readEntry_any t _ (by omega)).mono ?_
        rintro e w2 ⟨rfl, hb2⟩
        have how := own_below ho hb2 (Nat.le_refl _)
        have hbw : Below w.heap.size w w2 := hb.trans (hb2.mono hb.size)
        have hsz2 := hbw.size
        rcases entR_at (l := t.data.toList) with ⟨h1, h2⟩ | ⟨en, n, h1, h2⟩
        · have HN : Hid (entsN count s.data.toList = none) := by
            show _ = _
            rw [HE.out, hck, entsN_none h1]; rfl
          rw [h2]
          clear h1 h2 HE hck
          go_wp2
          go_ret2
          exact ⟨_, _, rfl, by rw [HN.out]; exact ⟨rfl, _, _, _, rfl⟩, hbw.alloc hsz2 _⟩
        · have hn := ent1_pos h1
          have HN : Hid (entsN count s.data.toList = (entsN (count - (k + 1)) (S (t.data.toList.drop n)).data.toList).map ((acc ++ [en]) ++ ·)) := by
            show _ = _
            rw [HE.out, hck, entsN_some h1, S_data, Option.map_map]
            congr 1
            funext x
            simp
          have hts2 : (S (t.data.toList.drop n)).size ≤ s.size := by rw [S_size]; simp; omega
          rw [h2]
          clear h1 h2 HE hck hn
          generalize S (t.data.toList.drop n) = t2 at *
          have HO : Hid (w2.ownsRow w.heap.size 106 3 u6 acc.length (cellsE acc)) := how
          have HW : Hid (Below w.heap.size w w2) := hbw
          clear ho how hb hb2 hbw
          go_wp2_with (at_builtin; refine wpList_append_own _ rfl (.tmp 23) (.tmp 25) 160 rfl w.heap.size 106 i0 (.agg #[.bool false, .string ⟨#[]⟩, .string ⟨#[]⟩]) 3 40 Tryz.underlying160 hi hz0 hz1 hz2 rfl (by decide) _ _ _ rfl ((HO.out.alloc _).alloc _) ⟨w2.heap.size + 1, 0, none⟩ 1 1 [.bool en.put, .string (S en.key), .string (S en.val)] rfl rfl ?_ (by simp [Value.oneCell']) (by unfold maxLen; omega) (by omega) (by simp; omega) ?_)
          · have h5 := cells_three_new (w2.alloc (.cells #[.bool en.put, .string (S en.key), .string (S en.val)] 106)) 106 (.bool en.put) (.string (S en.key)) (.string (S en.val))
            rwa [show (w2.alloc (.cells #[.bool en.put, .string (S en.key), .string (S en.val)] 106)).heap.size = w2.heap.size + 1 by simp] at h5
          · intro v' w4 hown' hgrow _
            go_wp2
            go_roundw
            case rel => exact ⟨k + 1, t2, acc ++ [en], by omega, rfl, hts2, by first | rfl | go_num, by rw [cellsE_snoc, List.length_append]; exact hown', by rw [List.length_append, HACC.out]; rfl, ((HW.out.alloc hsz2 _).alloc (by simp; omega) _).grown hgrow (by simp; omega) (own_ge HO.out), HN⟩
            case measure => first | (simp [intOf]; omega) | (simp [intOf])
      · have hke : k = count := by omega
        subst hke
        rw [Nat.sub_self] at HE
        obtain ⟨p, c, rfl⟩ := own_len ho
        by_cases ht : t.size = 0
        · have ht0 : t.data.toList = [] := List.eq_nil_of_length_eq_zero (by simp [ht])
          have HN : Hid (entsN k s.data.toList = some acc) := by
            show _ = _
            rw [HE.out, ht0]; simp [entsN]
          have t1 : (t.toList == []) = true := by rw [ByteArray.toList_eq, ht0]; rfl
          clear HE ht0 ht
          have HO : Hid (wr.ownsRow w.heap.size 106 3 (.slice p acc.length c) acc.length (cellsE acc)) := ho
          clear ho
          go_wp2
          go_ret2
          exact ⟨_, _, rfl, by rw [HN.out]; exact ⟨by simp, HO.out⟩, hb⟩
        · have ht0 : t.data.toList ≠ [] := by
            intro h
            apply ht
            have := congrArg List.length h
            simpa using this
          have HN : Hid (entsN k s.data.toList = none) := by
            show _ = _
            rw [HE.out, entsN, if_neg (by simpa using ht0)]; rfl
          have t1 : (t.toList == []) = false := by
            rw [ByteArray.toList_eq, beq_eq_false_iff_ne]; exact ht0
          clear HE ht0 ht ho
          go_wp2
          go_ret2
          exact ⟨_, _, rfl, by rw [HN.out]; exact ⟨by simp, _, _, _, rfl⟩, hb⟩
end Go.Proofs.YtdhgebdbiehchaaGreatDoor
