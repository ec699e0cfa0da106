/- The contract of the document's Read where the log has a head. The contract of the document's Look. -/
import Derived.Test.YtdhgebdbiehchaaGreatDoorB05
import Derived.Test.YtdhgebdbiehchaaGreatDoorB04
import Derived.Test.YtdhgebdbiehchaaGreatDoorB01
namespace Go.Proofs.YtdhgebdbiehchaaGreatDoor
open Go.RowKit
set_option linter.unusedSimpArgs false
set_option linter.unusedVariables false

theorem cells_five_new (w : World) (t : TypeId) (a b c d e : Value) : ∀ j u, [a, b, c, d, e][j]? = some u → (w.alloc (.cells #[a, b, c, d, e] t)).cell? ((⟨w.heap.size, 0, none⟩ : Addr).add j) = some u := by
  intro j u hj
  match j, hj with
  | 0, hj => simp at hj; subst hj; simp [Addr.add]
  | 1, hj => simp at hj; subst hj; simp [Addr.add]
  | 2, hj => simp at hj; subst hj; simp [Addr.add]
  | 3, hj => simp at hj; subst hj; simp [Addr.add]
  | 4, hj => simp at hj; subst hj; simp [Addr.add]
theorem own_set3 {w : World} {base e size n : Nat} {v : Value} {xs : List Value} (h : w.ownsRow base e size v n xs) {m : Nat} (hm : m < base) (a b c : Value) : (((w.setCell ⟨m, 0, none⟩ a).setCell ⟨m, 1, none⟩ b).setCell ⟨m, 2, none⟩ c).ownsRow base e size v n xs :=
  ownsRow_setCell_below (ownsRow_setCell_below (ownsRow_setCell_below h hm a) hm b) hm c

set_option maxRecDepth 100000 in
set_option maxHeartbeats 3200000 in
theorem refRead_yes (log : ByteArray) (w : World) (hs : log.size ≤ 100000) (hh : headB log.data.toList = true) :
    Calls Tryz.prog 163 #[.string log] w fun e w' => ∃ v rest b sd bt, e = .returned (.tuple #[v, .int .i64 rest, .agg #[.int .i64 b, .int .i64 sd, .int .i64 bt], .bool (headB log.data.toList)]) ∧ ReadIs w' w.heap.size v rest b sd bt log.data.toList ∧ Below w.heap.size w w' := by
  obtain ⟨i0, hi, hz0, hz1, hz2⟩ := info_parts info_said
  have hl : log.data.toList.length = log.size := by simp
  go_enter Tryz.func163, Tryz.ntmps163
  go_wp2_with fail
  refine (refhead_any _ _ (by omega)).mono ?_
  rintro e w1 ⟨b, sd, bt, rfl, hcfg, hb1⟩
  have hq1 : w.heap.size < w1.heap.size := by have := hb1.size; simp at this; omega
  have hT : TwoBoxes (w1.alloc (.cells #[.int .i64 b, .int .i64 sd, .int .i64 bt] 29)) w.heap.size w1.heap.size (.int .i64 b) (.int .i64 sd) (.int .i64 bt) := by
    have hA := (Below.refl w1.heap.size w1).alloc (Nat.le_refl _) (.cells #[.int .i64 b, .int .i64 sd, .int .i64 bt] 29)
    refine ⟨⟨0, 0, 0, ?_, ?_, ?_⟩, fun i => ?_, ⟨by simp, by simp, by simp⟩, hq1, by simp⟩
    · rw [hA.cell (p := ⟨w.heap.size, 0, none⟩) hq1, hb1.cell (p := ⟨w.heap.size, 0, none⟩) (by simp)]; simp
    · rw [hA.cell (p := ⟨w.heap.size, 1, none⟩) hq1, hb1.cell (p := ⟨w.heap.size, 1, none⟩) (by simp)]; simp
    · rw [hA.cell (p := ⟨w.heap.size, 2, none⟩) hq1, hb1.cell (p := ⟨w.heap.size, 2, none⟩) (by simp)]; simp
    · rw [hA.frozen (p := ⟨w.heap.size, i, none⟩) hq1, hb1.frozen (p := ⟨w.heap.size, i, none⟩) (by simp)]; simp
  have hB0 : Below w.heap.size w (w1.alloc (.cells #[.int .i64 b, .int .i64 sd, .int .i64 bt] 29)) := (((Below.refl _ _).alloc (Nat.le_refl _) _).trans (hb1.mono (by simp))).alloc (Nat.le_of_lt hq1) _
  clear hb1
  have hzW : (w1.alloc (.cells #[.int .i64 b, .int .i64 sd, .int .i64 bt] 29)).heap.size = w1.heap.size + 1 := by simp
  rw [hh]
  obtain ⟨rfl, rfl, rfl⟩ := hcfg hh
  have HH : Hid (headB log.data.toList = true) := hh
  have h14 : 14 ≤ log.size := by
    simp only [headB, Bool.and_eq_true, decide_eq_true_eq] at hh
    omega
  clear hcfg hh
  generalize hbk : hdBlk log.data.toList = B at *
  generalize hsd : hdSeed log.data.toList = sdn at *
  generalize hbt : hdBits log.data.toList = btn at *
  have HF : Hid (hdBlk log.data.toList = B ∧ hdSeed log.data.toList = sdn ∧ hdBits log.data.toList = btn) := ⟨hbk, hsd, hbt⟩
  clear hbk hsd hbt
  go_wp2
  generalize w1.alloc (.cells #[.int .i64 (B : Int), .int .i64 (sdn : Int), .int .i64 (btn : Int)] 29) = W0 at *
  have HT : Hid _ := hT
  have hm0 : w1.heap.size < W0.heap.size := by omega
  clear hT hzW
  go_loopw [8, 9] (fun o i wr => ∃ (a : Nat) (acc : List Sd), i = .int .i64 a ∧ (14 ≤ a ∧ a ≤ log.size) ∧ wr.ownsRow W0.heap.size 302 5 o acc.length (cellsS acc) ∧ acc.length ≤ 255 * a ∧ Below W0.heap.size W0 wr ∧ Hid (readL log.data.toList B 14 = (acc ++ (readL log.data.toList B a).1, (readL log.data.toList B a).2))) (fun _ i _ => log.size - (intOf i).toNat)
  case atStart => exact ⟨14, [], rfl, ⟨Nat.le_refl _, h14⟩, World.ownsRow_nil _ _ _ _, by simp, Below.refl _ _, by simp [Hid]⟩
  case round =>
    obtain ⟨a, acc, rfl, ⟨ha1, ha2⟩, ho, hacc, hbr, HE⟩ := hrel
    obtain ⟨W1, rfl⟩ : ∃ W1, W1 = wr := ⟨_, rfl⟩
    have hT1 := TwoBoxes.below HT.out hbr (by omega)
    obtain ⟨⟨x, y, z, r0, r1, r2⟩, rf, ⟨c0, c1, c2⟩, hn, hm⟩ := hT1
    go_wp2_with fail
    refine (refblock_any log a B sdn btn _ (by omega) (by omega)).mono ?_
    rintro e w3 ⟨v, n, rfl, hBI, hb3⟩
    have hb3' : Below W1.heap.size W1 w3 := hb3
    have hq3 : W0.heap.size ≤ w3.heap.size := Nat.le_trans hbr.size hb3.size
    have hbx : Below W0.heap.size W0 w3 := hbr.trans (hb3.mono hbr.size)
    have how := own_below ho hb3 (Nat.le_refl _)
    have HP : Hid (∀ es k, blockP log.data.toList a B = some (es, k) → 7 ≤ k ∧ k < 65543 ∧ 1 ≤ es.length ∧ es.length ≤ 255 ∧ 14 ≤ a ∧ a + k ≤ log.data.toList.length) := fun es k h => blockP_some h
    have HN : Hid (blockP log.data.toList a B = none → readL log.data.toList B a = ([], a)) := readL_none
    have HSM : Hid (∀ es k, blockP log.data.toList a B = some (es, k) → readL log.data.toList B a = (saids a 0 es ++ (readL log.data.toList B (a + k)).1, (readL log.data.toList B (a + k)).2)) := fun es k h => readL_some h
    clear ho r0 r1 r2 rf c0 c1 c2 hn hm
    obtain ⟨⟨x, y, z, r0, r1, r2⟩, rf, ⟨c0, c1, c2⟩, hn, hm⟩ := TwoBoxes.below HT.out hbx (by omega)
    generalize blockP log.data.toList a B = r at *
    rcases r with _ | ⟨es, k⟩
    · obtain ⟨rfl, rfl⟩ := hBI
      have HR : Hid (readL log.data.toList B 14 = (acc, a)) := by
        show _ = _
        rw [HE.out, HN.out rfl]; simp
      have f0 := rf 0
      have f1 := rf 1
      have f2 := rf 2
      have HB3 : Hid (Below w.heap.size w w3) := hB0.trans (hbx.mono hB0.size)
      have HOW : Hid (w3.ownsRow W0.heap.size 302 5 u8 acc.length (cellsS acc)) := how
      have hwr : IntKind.i64.wrap ((log.size : Int) - (a : Int)) = (log.size : Int) - (a : Int) := by rw [IntKind.wrap_i64]; omega
      clear rf HN HSM HP HE hb3 hb3' hbx how hB0
      go_wp2_with fail
      go_region_held3 (fun w' => w'.cell? ⟨w1.heap.size, 0, none⟩ = w3.cell? ⟨w1.heap.size, 0, none⟩ ∧ w'.cell? ⟨w1.heap.size, 1, none⟩ = w3.cell? ⟨w1.heap.size, 1, none⟩ ∧ w'.cell? ⟨w1.heap.size, 2, none⟩ = w3.cell? ⟨w1.heap.size, 2, none⟩) (first | (exact ⟨far3r _ (by omega) _ _ _ 0, far3r _ (by omega) _ _ _ 1, far3r _ (by omega) _ _ _ 2⟩) | (exact ⟨rfl, rfl, rfl⟩)) (first | (fail))
      all_goals
        go_wp2
        exact bodyPost_ret (v := .tuple #[u8, .int .i64 ((log.size : Int) - (a : Int)), .agg #[.int .i64 B, .int .i64 sdn, .int .i64 btn], .bool true]) (by simp [results, Tryz.results163, go_sem, r0, r1, r2, hwr]) rfl ⟨_, _, _, _, _, by rw [HH.out], ⟨fun _ => ⟨by rw [HF.out.1], by rw [HF.out.2.1], by rw [HF.out.2.2], by rw [HF.out.1, HR.out, hl], by rw [HF.out.1, HR.out]; exact own_lower (own_set3 HOW.out (by omega) _ _ _).drew (by omega), by rw [HF.out.1, HR.out]; exact (by omega : acc.length ≤ 100000000)⟩, fun h => by rw [HH.out] at h; cases h⟩, (((HB3.out.setCell (Nat.le_refl _) _).setCell (Nat.le_refl _) _).setCell (Nat.le_refl _) _).drew⟩
    · obtain ⟨rfl, hrow⟩ := hBI
      obtain ⟨k1, k2, k3, k4, _, k5⟩ := HP.out es k rfl
      rw [hl] at k5
      have HR : Hid (readL log.data.toList B 14 = ((acc ++ saids a 0 es) ++ (readL log.data.toList B (a + k)).1, (readL log.data.toList B (a + k)).2)) := by
        show _ = _
        rw [HE.out, HSM.out es k rfl]; simp
      clear HN HSM HP HE rf r0 r1 r2 c0 c1 c2
      have t0 : ((k : Int) == 0) = false := by rw [beq_eq_false_iff_ne]; omega
      obtain ⟨g, cap, rfl, hg0, hg1, _⟩ := own_cellsN hrow (by omega)
      have HROW : Hid (w3.ownsRow W1.heap.size 114 3 (.slice (some ⟨g, 0, none⟩) es.length cap) es.length (cellsE es)) := hrow
      have HOW : Hid (w3.ownsRow W0.heap.size 302 5 u8 acc.length (cellsS acc)) := how
      clear hrow how
      go_wp2
      go_loopw [8, 12] (fun o i wx => ∃ (j : Nat), j ≤ es.length ∧ i = .int .i64 j ∧ (wx.ownsRow W0.heap.size 302 5 o (acc ++ saids a 0 (es.take j)).length (cellsS (acc ++ saids a 0 (es.take j))) ∧ wx.ownsRow W1.heap.size 114 3 (.slice (some ⟨g, 0, none⟩) es.length cap) es.length (cellsE es)) ∧ Below W0.heap.size W0 wx) (fun _ i _ => es.length - (intOf i).toNat)
      case atStart => exact ⟨0, Nat.zero_le _, rfl, ⟨by rw [show acc ++ saids a 0 (es.take 0) = acc from by simp [saids]]; exact HOW.out, HROW.out⟩, hbx⟩
      case round =>
        obtain ⟨j, hj, rfl, ⟨how, hrow⟩, hbj⟩ := hrel
        obtain ⟨wx, rfl⟩ : ∃ wx, wx = wr := ⟨_, rfl⟩
        by_cases hje : j < es.length
        · have hll : (acc ++ saids a 0 (es.take j)).length ≤ 30000000 := by
            rw [List.length_append, saids_length]; simp; omega
          have hce := cellsE_get hje
          have y0 := (hrow.cellAt (j * 3) (by omega)).trans hce.1
          have y1 := (hrow.cellAt (j * 3 + 1) (by omega)).trans hce.2.1
          have y2 := (hrow.cellAt (j * 3 + 2) (by omega)).trans hce.2.2
          have hszj := hbj.size
          have HSX : Hid (acc ++ saids a 0 (es.take (j + 1)) = (acc ++ saids a 0 (es.take j)) ++ [⟨es[j].put, es[j].key, es[j].val, a, j⟩]) := by
            show _ = _
            rw [saids_take hje, List.append_assoc]
          clear hce
          generalize acc ++ saids a 0 (es.take j) = acc2 at *
          go_wp2_with (at_builtin; refine wpList_append_own _ rfl (.tmp 42) (.tmp 50) 256 rfl W0.heap.size 302 i0 (.agg #[.bool false, .string ⟨#[]⟩, .string ⟨#[]⟩, .int .i64 0, .int .i64 0]) 5 56 Tryz.underlying256 hi hz0 hz1 hz2 rfl (by decide) _ _ _ rfl (how.alloc _) ⟨wx.heap.size, 0, none⟩ 1 1 [.bool es[j].put, .string (S es[j].key), .string (S es[j].val), .int .i64 (a : Int), .int .i64 (j : Int)] rfl rfl (cells_five_new _ _ _ _ _ _ _) (by simp [Value.oneCell']) (by unfold maxLen; omega) (by omega) (by simp; omega) ?_)
          intro v' w4 hown' hgrow _
          go_wp2
          go_roundw
          case rel => exact ⟨j + 1, by omega, by first | rfl | go_num, ⟨by rw [HSX.out, cellsS_snoc, List.length_append]; exact hown', World.ownsRow.kept (hrow.alloc _) hgrow (own_apart hrow how (by decide))⟩, (hbj.alloc hszj _).grown hgrow (by simp; omega) (own_ge how)⟩
          case measure => first | (simp [intOf]; omega) | (simp [intOf])
        · have hje' : j = es.length := by omega
          subst hje'
          rw [List.take_length] at how
          have hla : (acc ++ saids a 0 es).length ≤ 255 * (a + k) := by
            rw [List.length_append, saids_length]; omega
          have HOW2 : Hid (wx.ownsRow W0.heap.size 302 5 u8 (acc ++ saids a 0 es).length (cellsS (acc ++ saids a 0 es))) := how
          clear how hrow
          go_wp2
          go_roundw
          case rel => exact ⟨a + k, acc ++ saids a 0 es, by first | rfl | go_num, ⟨by omega, by omega⟩, HOW2.out, hla, hbj, HR⟩
          case measure => first | (simp [intOf]; omega) | (simp [intOf])

theorem refRead_any (log : ByteArray) (w : World) (hs : log.size ≤ 100000) :
    Calls Tryz.prog 163 #[.string log] w fun e w' => ∃ v rest b sd bt, e = .returned (.tuple #[v, .int .i64 rest, .agg #[.int .i64 b, .int .i64 sd, .int .i64 bt], .bool (headB log.data.toList)]) ∧ ReadIs w' w.heap.size v rest b sd bt log.data.toList ∧ Below w.heap.size w w' := by
  cases hh : headB log.data.toList
  · have := refRead_no log w hs hh
    rwa [hh] at this
  · have := refRead_yes log w hs hh
    rwa [hh] at this
end Go.Proofs.YtdhgebdbiehchaaGreatDoor
namespace Go.Proofs.YtdhgebdbiehchaaGreatDoor
open Go.RowKit
set_option linter.unusedSimpArgs false
set_option linter.unusedVariables false

def ansV (a : Ans) : Value := .tuple #[.string (S a.val), .int .i64 a.num, .int .i64 a.err]

theorem begins_zero {log ix : List UInt8} (h : beginsE log ix = 0) : ix.length = 20 + 10 * ixN ix + 4 ∧ ixN ix ≠ 0 ∧ headB log = true := by
  unfold beginsE at h
  by_cases h1 : ix.length < 20 ∨ sealedB (ix.take 20) = false ∨ (ix.take 2 == [73, 88]) = false ∨ ixN ix = 0 ∨ ix.length ≠ 20 + 10 * ixN ix + 4
  · rw [if_pos h1] at h; exact absurd h (by decide)
  · rw [if_neg h1] at h
    by_cases h2 : ixSize ix ≠ log.length ∨ (ixSum ix : Int) ≠ sumI log
    · rw [if_pos h2] at h; exact absurd h (by decide)
    · rw [if_neg h2] at h
      by_cases h3 : headB log = false
      · rw [if_pos h3] at h; exact absurd h (by decide)
      · simp only [not_or] at h1
        exact ⟨by omega, h1.2.2.2.1, by simpa using h3⟩
theorem beginsE_bd {log ix : List UInt8} : beginsE log ix = 0 ∨ beginsE log ix = 3 ∨ beginsE log ix = 4 := by
  unfold beginsE
  split
  · exact .inr (.inl rfl)
  · split
    · exact .inr (.inr rfl)
    · split
      · exact .inr (.inl rfl)
      · exact .inl rfl
theorem head_well {l : List UInt8} (h : headB l = true) : (1 ≤ (hdBlk l : Int) ∧ (hdBlk l : Int) ≤ 400) ∧ (hdSeed l : Int) ≤ 4294967295 ∧ (hdBits l : Int) ≤ 32 := by
  simp only [headB, wellB, Bool.and_eq_true, decide_eq_true_eq] at h
  omega

set_option maxHeartbeats 800000 in
theorem refLook_err (log ix key : ByteArray) (w : World) (hlog : log.size ≤ 140737488351232) (hix : ix.size ≤ 140737488351232) (he : beginsE log.data.toList ix.data.toList ≠ 0) :
    Calls Tryz.prog 116 #[.string log, .string ix, .string key] w fun e w' => e = .returned (ansV (lookS log.data.toList ix.data.toList key.data.toList)) ∧ Below w.heap.size w w' := by
  have HL : Hid (lookS log.data.toList ix.data.toList key.data.toList = ⟨[], 0, beginsE log.data.toList ix.data.toList⟩) := by
    show _ = _
    rw [lookS, if_neg he]
  have hb := begins_any log ix w hlog hix
  rw [beginsR_err rfl he] at hb
  have HB : Hid _ := hb
  have ht : (beginsE log.data.toList ix.data.toList != 0) = true := by rw [bne_iff_ne]; exact he
  clear hb he
  generalize beginsE log.data.toList ix.data.toList = er at *
  go_enter Tryz.func116, Tryz.ntmps116
  go_wp2_with fail
  refine Calls.mono HB.out ?_
  rintro e w1 ⟨rfl, hb1⟩
  go_wp2
  go_ret3
  exact ⟨by rw [HL.out]; rfl, hb1.alloc hb1.size _⟩

theorem keepL {n m : Nat} {w wx w' : World} {a b c : Option Value} (h : (wx.cell? ⟨n, 0, none⟩ = a ∧ wx.cell? ⟨n, 1, none⟩ = b ∧ wx.cell? ⟨n, 2, none⟩ = c) ∧ Below m w wx ∧ m ≤ wx.heap.size) (hn : n < m) (hb : Below wx.heap.size wx w') :
    (w'.cell? ⟨n, 0, none⟩ = a ∧ w'.cell? ⟨n, 1, none⟩ = b ∧ w'.cell? ⟨n, 2, none⟩ = c) ∧ Below m w w' ∧ m ≤ w'.heap.size := by
  obtain ⟨⟨h0, h1, h2⟩, h3, h4⟩ := h
  have h5 : n < wx.heap.size := by omega
  exact ⟨⟨(hb.cell (p := ⟨n, 0, none⟩) h5).trans h0, (hb.cell (p := ⟨n, 1, none⟩) h5).trans h1, (hb.cell (p := ⟨n, 2, none⟩) h5).trans h2⟩, h3.trans (hb.mono h4), Nat.le_trans h4 hb.size⟩

set_option maxRecDepth 100000 in
set_option maxHeartbeats 3200000 in
theorem refLook_ok (log ix key : ByteArray) (w : World) (hlog : log.size ≤ 140737488351232) (hix : ix.size ≤ 140737488351232) (hkey : key.size ≤ 140737488351232) (he : beginsE log.data.toList ix.data.toList = 0) :
    Calls Tryz.prog 116 #[.string log, .string ix, .string key] w fun e w' => e = .returned (ansV (lookS log.data.toList ix.data.toList key.data.toList)) ∧ Below w.heap.size w w' := by
  have hlen : ix.data.toList.length = ix.size := by simp
  obtain ⟨g1, g2, g3⟩ := begins_zero he
  obtain ⟨⟨v0, v1⟩, v2, v3⟩ := head_well g3
  rw [hlen] at g1
  have hb := begins_any log ix w hlog hix
  rw [beginsR_ok he] at hb
  have HB : Hid _ := hb
  have hfar : ixFar ix.data.toList < 65536 := by
    have := highL_lt ((ix.data.toList.drop 6).take 2)
    have h4 := pow256_le (show ((ix.data.toList.drop 6).take 2).length ≤ 2 by simp; omega)
    unfold ixFar; omega
  have hnn : ixN ix.data.toList < 65536 := by
    have := highL_lt ((ix.data.toList.drop 4).take 2)
    have h4 := pow256_le (show ((ix.data.toList.drop 4).take 2).length ≤ 2 by simp; omega)
    unfold ixN; omega
  have hnum := refnumber_any (hdSeed log.data.toList) (hdBits log.data.toList) key
  obtain ⟨r0, r1⟩ := numberI_range (hdSeed log.data.toList) (hdBits log.data.toList) key.data.toList (by omega) v3
  have HL : Hid (lookS log.data.toList ix.data.toList key.data.toList = lookGo log.data.toList ix.data.toList key.data.toList (numberI (hdSeed log.data.toList) (hdBits log.data.toList) key.data.toList).toNat (ixN ix.data.toList) (hdBlk log.data.toList) (ixFar ix.data.toList + 1) 0) := by
    show _ = _
    rw [lookS, if_pos he]
  obtain ⟨W, hW⟩ := Int.eq_ofNat_of_zero_le r0
  rw [hW] at hnum r0 r1 HL
  rw [Int.toNat_natCast] at HL
  have HNUM : Hid _ := hnum
  have HG : Hid (ix.size = 20 + 10 * ixN ix.data.toList + 4) := g1
  clear hb he g3 hnum hW g1 hlen
  generalize hdBlk log.data.toList = B at *
  generalize hdSeed log.data.toList = sd at *
  generalize hdBits log.data.toList = bt at *
  generalize ixFar ix.data.toList = far at *
  generalize ixN ix.data.toList = n at *
  go_enter Tryz.func116, Tryz.ntmps116
  go_wp2_with fail
  refine Calls.mono HB.out ?_
  rintro e w1 ⟨rfl, hb1⟩
  go_wp2_with fail
  refine (HNUM.out _ (by omega) (by omega) (by omega) (by omega) (by omega)).mono ?_
  rintro e w2 ⟨rfl, hb2⟩
  have hz1 : w1.heap.size < w2.heap.size := by have := hb2.size; simp at this; omega
  have d0 : w2.cell? ⟨w1.heap.size, 0, none⟩ = some (.int .i64 B) := by rw [hb2.cell (p := ⟨w1.heap.size, 0, none⟩) (by simp)]; simp
  have d1 : w2.cell? ⟨w1.heap.size, 1, none⟩ = some (.int .i64 sd) := by rw [hb2.cell (p := ⟨w1.heap.size, 1, none⟩) (by simp)]; simp
  have d2 : w2.cell? ⟨w1.heap.size, 2, none⟩ = some (.int .i64 bt) := by rw [hb2.cell (p := ⟨w1.heap.size, 2, none⟩) (by simp)]; simp
  have hb02 : Below w.heap.size w w2 := hb1.trans ((((Below.refl _ _).alloc (Nat.le_refl _) _).trans (hb2.mono (by simp))).mono hb1.size)
  go_wp2
  go_loopw [14] (fun i wr => ∃ (k : Nat), k ≤ far + 1 ∧ i = .int .i64 k ∧ ((wr.cell? ⟨w1.heap.size, 0, none⟩ = some (.int .i64 B) ∧ wr.cell? ⟨w1.heap.size, 1, none⟩ = some (.int .i64 sd) ∧ wr.cell? ⟨w1.heap.size, 2, none⟩ = some (.int .i64 bt)) ∧ Below w.heap.size w wr ∧ w1.heap.size < wr.heap.size) ∧ Hid (lookS log.data.toList ix.data.toList key.data.toList = lookGo log.data.toList ix.data.toList key.data.toList W n B (far + 1 - k) k)) (fun i _ => far + 1 - (intOf i).toNat)
  case atStart => exact ⟨0, by omega, rfl, ⟨⟨d0, d1, d2⟩, hb02, hz1⟩, HL⟩
  case round =>
    obtain ⟨k, hk, rfl, hS, HK⟩ := hrel
    clear d0 d1 d2
    by_cases hlt : k < far + 1
    · clear hz1 hb02 hb1 hb2 HL HNUM HB v0 v1 v2 v3 hk
      have hq0 : ((W : Int) + (k : Int)) % (n : Int) = (((W + k) % n : Nat) : Int) := by simp
      have hqn : (W + k) % n < n := Nat.mod_lt _ (by omega)
      obtain ⟨q, hq⟩ : ∃ q, q = (W + k) % n := ⟨_, rfl⟩
      rw [← hq] at hq0 hqn
      have HQ : Hid (q = (W + k) % n) := hq
      clear hq
      have hx := cut_run ix (20 + 10 * q) 10 (by rw [HG.out]; omega) (20 + 10 * (q : Int)) (20 + 10 * (q : Int) + 10) (by omega) (by omega)
      obtain ⟨s, hs⟩ : ∃ s, s = S ((ix.data.toList.drop (20 + 10 * q)).take 10) := ⟨_, rfl⟩
      rw [← hs] at hx
      have hsz : s.size = 10 := by
        rw [hs, S_size]
        have := HG.out
        simp; omega
      have HSL : Hid (s.data.toList = slotL ix.data.toList ((W + k) % n)) := by
        show _ = _
        rw [hs, S_data, slotL, HQ.out]
      have HSTEP : Hid (slotStep log.data.toList key.data.toList W B k (slotL ix.data.toList ((W + k) % n)) = slotStep log.data.toList key.data.toList W B k s.data.toList) := by
        show _ = _
        rw [HSL.out]
      have hkk : far + 1 - k = (far - k) + 1 := by omega
      have hk' : (k : Int) ≤ (far : Int) := by omega
      clear hs HQ HG HSL
      have z0 : s.data.toList.getD 0 0 = s[0] := by
        rw [List.getD, List.getElem?_eq_getElem (by simp; omega)]; rfl
      have z9 : s.data.toList.getD 9 0 = s[9] := by
        rw [List.getD, List.getElem?_eq_getElem (by simp; omega)]; rfl
      have HZ : Hid (s.data.toList.getD 0 0 = s[0] ∧ s.data.toList.getD 9 0 = s[9]) := ⟨z0, z9⟩
      clear z0 z9
      by_cases e0 : s[0].toNat = 0
      · have t0 : ((s[0].toNat : Int) == 0) = true := by rw [beq_iff_eq]; omega
        have HR : Hid (lookS log.data.toList ix.data.toList key.data.toList = ⟨[], k + 1, 2⟩) := by
          show _ = _
          rw [HK.out, hkk]
          exact lookGo_some (by rw [HSTEP.out, slotStep, HZ.out.1, if_pos e0])
        obtain ⟨_, hB, _⟩ := hS
        clear HK HSTEP HZ e0 hkk
        go_wp2
        go_ret3
        exact ⟨by rw [HR.out]; rfl, hB⟩
      · have t0 : ((s[0].toNat : Int) == 0) = false := by rw [beq_eq_false_iff_ne]; omega
        by_cases e1 : s[0].toNat = 1
        · have t1 : ((s[0].toNat : Int) != 1) = false := by rw [bne_eq_false_iff_eq]; omega
          have c15 := cut_run s 1 4 (by omega) 1 5 rfl rfl
          have c59 := cut_run s 5 4 (by omega) 5 9 rfl rfl
          have hw1 : highL ((s.data.toList.drop 1).take 4) < 4294967296 := highL4 _ (by simp; omega)
          have hw5 : highL ((s.data.toList.drop 5).take 4) < 4294967296 := highL4 _ (by simp; omega)
          have hl15 : ((s.data.toList.drop 1).take 4).length = 4 := by simp; omega
          have hl59 : ((s.data.toList.drop 5).take 4).length = 4 := by simp; omega
          have HST : Hid (slotStep log.data.toList key.data.toList W B k s.data.toList = if highL ((s.data.toList.drop 1).take 4) ≠ W then none else entStep key.data.toList k (blockP log.data.toList (highL ((s.data.toList.drop 5).take 4)) B) s[9].toNat) := by
            show _ = _
            rw [slotStep, HZ.out.1, HZ.out.2, if_neg e0]
            by_cases hh : highL ((s.data.toList.drop 1).take 4) ≠ W
            · rw [if_pos (.inr hh), if_pos hh]
            · rw [if_neg (by rintro (h | h); exact h e1; exact hh h), if_neg hh]
          generalize (s.data.toList.drop 1).take 4 = l15 at *
          generalize (s.data.toList.drop 5).take 4 = l59 at *
          clear HZ e0 e1
          have z15 : (S l15).size = 4 := by rw [S_size, hl15]
          have z59 : (S l59).size = 4 := by rw [S_size, hl59]
          clear hl15 hl59
          have HS : Hid _ := hS
          obtain ⟨⟨d0, d1, d2⟩, hB, hzz⟩ := hS
          go_wp2_with fail
          refine (high_any _ _ (by omega)).mono ?_
          rintro e w3 ⟨rfl, rfl⟩
          rw [S_data]
          by_cases e2 : highL l15 = W
          · have t2 : ((highL l15 : Int) != (W : Int)) = false := by rw [bne_eq_false_iff_eq]; omega
            have HST' : Hid (slotStep log.data.toList key.data.toList W B k (slotL ix.data.toList ((W + k) % n)) = entStep key.data.toList k (blockP log.data.toList (highL l59) B) s[9].toNat) := by
              show _ = _
              rw [HSTEP.out, HST.out, if_neg (by intro h; exact h e2)]
            clear HST HSTEP e2
            generalize highL l15 = x15 at *
            go_wp2_with fail
            go_region_held3 (fun w' => (w'.cell? ⟨w1.heap.size, 0, none⟩ = some (.int .i64 (B : Int)) ∧ w'.cell? ⟨w1.heap.size, 1, none⟩ = some (.int .i64 (sd : Int)) ∧ w'.cell? ⟨w1.heap.size, 2, none⟩ = some (.int .i64 (bt : Int))) ∧ Below w3.heap.size w3 w' ∧ w3.heap.size ≤ w'.heap.size) (first | (exact ⟨⟨d0, d1, d2⟩, (Below.refl _ _).drew, Nat.le_refl _⟩) | (assumption) | (exact keepL (by assumption) hzz (by assumption))) (first | (go_at_call 169; refine (high_any _ _ (by omega)).mono ?_; rintro e w' ⟨rfl, rfl⟩; rw [S_data]) | (go_at_call 170; refine (refblock_any log (highL l59) B sd bt _ hlog (by omega)).mono ?_; rintro e w' ⟨v, nn, rfl, hBI, hb4⟩))
            have hS4 := keepL (w := w3) (wx := w3.drew) ⟨⟨d0, d1, d2⟩, (Below.refl _ _).drew, Nat.le_refl _⟩ hzz hb4
            have HS4 : Hid ((_ ∧ _ ∧ _) ∧ Below w.heap.size w _ ∧ w1.heap.size < _) := ⟨hS4.1, hB.trans (hS4.2.1.mono hB.size), Nat.lt_of_lt_of_le hzz hS4.2.2⟩
            have hB4 := HS4.out.2.1
            clear hS4 d0 d1 d2 hb4 HS c15 c59 hx
            have hx9 := w64b s[9]
            have hw9 := s[9].toNat_lt
            have hbk : ∀ es k, blockP log.data.toList (highL l59) B = some (es, k) → 7 ≤ k ∧ k < 65543 ∧ 1 ≤ es.length ∧ es.length ≤ 255 := fun es k h => ⟨(blockP_some h).1, (blockP_some h).2.1, (blockP_some h).2.2.1, (blockP_some h).2.2.2.1⟩
            generalize blockP log.data.toList (highL l59) B = r at *
            clear hw5
            rcases r with _ | ⟨es, kk⟩
            · clear hbk
              obtain ⟨rfl, rfl⟩ := hBI
              have HR : Hid (lookS log.data.toList ix.data.toList key.data.toList = ⟨[], 0, 3⟩) := by
                show _ = _
                rw [HK.out, hkk]
                exact lookGo_some (by rw [HST'.out]; rfl)
              clear HK HST' hkk
              go_wp2
              go_ret3
              exact ⟨by rw [HR.out]; rfl, hB4⟩
            · obtain ⟨k1, k2, k3, k4⟩ := hbk es kk rfl
              clear hbk
              obtain ⟨rfl, hown⟩ := hBI
              obtain ⟨g, cap, rfl, hg0, hg1, hgc⟩ := own_cells3 hown (by omega)
              clear hown
              have t3 : ((kk : Int) == 0) = false := by rw [beq_eq_false_iff_ne]; omega
              by_cases e4 : s[9].toNat < es.length
              · have hgE : es[s[9].toNat]? = some es[s[9].toNat] := List.getElem?_eq_getElem e4
                have hce := cellsE_get e4
                have y0 := (hgc (s[9].toNat * 3) (by omega)).trans hce.1
                have y1 := (hgc (s[9].toNat * 3 + 1) (by omega)).trans hce.2.1
                have y2 := (hgc (s[9].toNat * 3 + 2) (by omega)).trans hce.2.2
                have HST2 : Hid (slotStep log.data.toList key.data.toList W B k (slotL ix.data.toList ((W + k) % n)) = if es[s[9].toNat].put = false then some ⟨[], 0, 3⟩ else if es[s[9].toNat].key = key.data.toList then some ⟨es[s[9].toNat].val, k + 1, 0⟩ else none) := by
                  show _ = _
                  rw [HST'.out]
                  simp only [entStep, hgE]
                clear hce hgc HST' hgE
                generalize es[s[9].toNat] = en at *
                obtain ⟨put, ky, vl⟩ := en
                dsimp only at *
                cases put
                · have HR : Hid (lookS log.data.toList ix.data.toList key.data.toList = ⟨[], 0, 3⟩) := by
                    show _ = _
                    rw [HK.out, hkk]
                    exact lookGo_some (by rw [HST2.out, if_pos rfl])
                  clear HK HST2 hkk
                  go_wp2
                  go_ret3
                  exact ⟨by rw [HR.out]; rfl, hB4⟩
                · by_cases e5 : ky = key.data.toList
                  · have t5 : ((S ky).toList == key.toList) = true := by rw [ByteArray.toList_eq, ByteArray.toList_eq, S_data, e5]; simp
                    have HR : Hid (lookS log.data.toList ix.data.toList key.data.toList = ⟨vl, k + 1, 0⟩) := by
                      show _ = _
                      rw [HK.out, hkk]
                      exact lookGo_some (by rw [HST2.out, if_neg (by decide), if_pos e5])
                    clear HK HST2 hkk e5 r0 r1 hnn g2 hq0 hqn hlog hix hkey hB
                    go_wp2
                    go_ret3
                    exact ⟨by rw [HR.out]; rfl, hB4⟩
                  · have t5 : ((S ky).toList == key.toList) = false := by rw [ByteArray.toList_eq, ByteArray.toList_eq, S_data, beq_eq_false_iff_ne]; exact e5
                    have HR : Hid (lookS log.data.toList ix.data.toList key.data.toList = lookGo log.data.toList ix.data.toList key.data.toList W n B (far + 1 - (k + 1)) (k + 1)) := by
                      show _ = _
                      rw [HK.out, hkk, lookGo_none (by rw [HST2.out, if_neg (by decide), if_neg e5]), show far + 1 - (k + 1) = far - k by omega]
                    clear HK HST2 hkk e5 r0 r1 hnn g2 hq0 hqn hlog hix hkey hB
                    go_wp2
                    go_roundw
                    case rel => exact ⟨k + 1, by omega, by go_num, HS4.out, HR⟩
                    case measure => simp [intOf]; omega
              · have HR : Hid (lookS log.data.toList ix.data.toList key.data.toList = ⟨[], 0, 3⟩) := by
                  show _ = _
                  rw [HK.out, hkk]
                  exact lookGo_some (by rw [HST'.out]; simp only [entStep, List.getElem?_eq_none (Nat.not_lt.1 e4)])
                clear HK HST' hkk hgc
                go_wp2
                go_ret3
                exact ⟨by rw [HR.out]; rfl, hB4⟩
          · have t2 : ((highL l15 : Int) != (W : Int)) = true := by rw [bne_iff_ne]; omega
            have HR : Hid (lookS log.data.toList ix.data.toList key.data.toList = lookGo log.data.toList ix.data.toList key.data.toList W n B (far + 1 - (k + 1)) (k + 1)) := by
              show _ = _
              rw [HK.out, hkk, lookGo_none (by rw [HSTEP.out, HST.out, if_pos e2]), show far + 1 - (k + 1) = far - k by omega]
            clear HK HSTEP HST e2 hkk d0 d1 d2
            go_wp2
            go_roundw
            case rel => exact ⟨k + 1, by omega, by go_num, HS.out, HR⟩
            case measure => simp [intOf]; omega
        · have t1 : ((s[0].toNat : Int) != 1) = true := by rw [bne_iff_ne]; omega
          have HR : Hid (lookS log.data.toList ix.data.toList key.data.toList = lookGo log.data.toList ix.data.toList key.data.toList W n B (far + 1 - (k + 1)) (k + 1)) := by
            show _ = _
            rw [HK.out, hkk, lookGo_none (by rw [HSTEP.out, slotStep, HZ.out.1, if_neg e0, if_pos (.inl e1)]), show far + 1 - (k + 1) = far - k by omega]
          have HS : Hid _ := hS
          clear HK HSTEP HZ e0 e1 hkk hS
          go_wp2
          go_roundw
          case rel => exact ⟨k + 1, by omega, by go_num, HS.out, HR⟩
          case measure => simp [intOf]; omega
    · obtain rfl : k = far + 1 := by omega
      have HR : Hid (lookS log.data.toList ix.data.toList key.data.toList = ⟨[], far + 1, 2⟩) := by
        show _ = _
        rw [HK.out, Nat.sub_self]; rfl
      obtain ⟨_, hB, _⟩ := hS
      clear HK HL hlt hk HG HNUM HB v0 v1 v2 v3 r0 r1 hnn g2 hz1 hb02 hb1 hb2
      go_wp2
      go_ret3
      exact ⟨by rw [HR.out]; rfl, hB⟩
end Go.Proofs.YtdhgebdbiehchaaGreatDoor
