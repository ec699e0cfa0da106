/- The contract of the document's Look. The contract of the document's Index. The blocks of a log, one behind the other, as a round over them is told them. -/
import Derived.Test.YtdhgebdbiehchaaGreatDoorB04
import Derived.Test.YtdhgebdbiehchaaGreatDoorB01
import Derived.Test.YtdhgebdbiehchaaGreatDoorB07
import Derived.Test.YtdhgebdbiehchaaGreatDoorB06
namespace Go.Proofs.YtdhgebdbiehchaaGreatDoor
open Go.RowKit
set_option linter.unusedSimpArgs false
set_option linter.unusedVariables false

def ansV (a : Ans) : Value := .tuple #[.string (S a.val), .int .i64 a.num, .int .i64 a.err]

theorem begins_zero {log ix : List UInt8} (h : beginsE log ix = 0) : ix.length = 20 + 10 * ixN ix + 4 ∧ ixN ix ≠ 0 ∧ headB log = true := by
  unfold beginsE at h
  by_cases h1 : ix.length < 20 ∨ sealedB (ix.take 20) = false ∨ (ix.take 2 == [73, 88]) = false ∨ ixN ix = 0 ∨ ix.length ≠ 20 + 10 * ixN ix + 4
  · rw [if_pos h1] at h; exact absurd h (by decide)
  · rw [if_neg h1] at h
    by_cases h2 : ixSize ix ≠ log.length ∨ (ixSum ix : Int) ≠ sumI log
    · rw [if_pos h2] at h; exact absurd h (by decide)
    · rw [if_neg h2] at h
      by_cases h3 : headB log = false
      · rw [if_pos h3] at h; exact absurd h (by decide)
      · simp only [not_or] at h1
        exact ⟨by omega, h1.2.2.2.1, by simpa using h3⟩
theorem beginsE_bd {log ix : List UInt8} : beginsE log ix = 0 ∨ beginsE log ix = 3 ∨ beginsE log ix = 4 := by
  unfold beginsE
  split
  · exact .inr (.inl rfl)
  · split
    · exact .inr (.inr rfl)
    · split
      · exact .inr (.inl rfl)
      · exact .inl rfl
theorem head_well {l : List UInt8} (h : headB l = true) : (1 ≤ (hdBlk l : Int) ∧ (hdBlk l : Int) ≤ 400) ∧ (hdSeed l : Int) ≤ 4294967295 ∧ (hdBits l : Int) ≤ 32 := by
  simp only [headB, wellB, Bool.and_eq_true, decide_eq_true_eq] at h
  omega

set_option maxHeartbeats 800000 in
theorem refLook_err (log ix key : ByteArray) (w : World) (hlog : log.size ≤ 140737488351232) (hix : ix.size ≤ 140737488351232) (he : beginsE log.data.toList ix.data.toList ≠ 0) :
    Calls Tryz.prog 116 #[.string log, .string ix, .string key] w fun e w' => e = .returned (ansV (lookS log.data.toList ix.data.toList key.data.toList)) ∧ Below w.heap.size w w' := by
  have HL : Hid (lookS log.data.toList ix.data.toList key.data.toList = ⟨[], 0, beginsE log.data.toList ix.data.toList⟩) := by
    show _ = _
    rw [lookS, if_neg he]
  have hb := begins_any log ix w hlog hix
  rw [beginsR_err rfl he] at hb
  have HB : Hid _ := hb
  have ht : (beginsE log.data.toList ix.data.toList != 0) = true := by rw [bne_iff_ne]; exact he
  clear hb he
  generalize beginsE log.data.toList ix.data.toList = er at *
  go_enter Tryz.func116, Tryz.ntmps116
  go_wp2_with fail
  refine Calls.mono HB.out ?_
  rintro e w1 ⟨rfl, hb1⟩
  go_wp2
  go_ret3
  exact ⟨by rw [HL.out]; rfl, hb1.alloc hb1.size _⟩

theorem keepL {n m : Nat} {w wx w' : World} {a b c : Option Value} (h : (wx.cell? ⟨n, 0, none⟩ = a ∧ wx.cell? ⟨n, 1, none⟩ = b ∧ wx.cell? ⟨n, 2, none⟩ = c) ∧ Below m w wx ∧ m ≤ wx.heap.size) (hn : n < m) (hb : Below wx.heap.size wx w') :
    (w'.cell? ⟨n, 0, none⟩ = a ∧ w'.cell? ⟨n, 1, none⟩ = b ∧ w'.cell? ⟨n, 2, none⟩ = c) ∧ Below m w w' ∧ m ≤ w'.heap.size := by
  obtain ⟨⟨h0, h1, h2⟩, h3, h4⟩ := h
  have h5 : n < wx.heap.size := by omega
  exact ⟨⟨(hb.cell (p := ⟨n, 0, none⟩) h5).trans h0, (hb.cell (p := ⟨n, 1, none⟩) h5).trans h1, (hb.cell (p := ⟨n, 2, none⟩) h5).trans h2⟩, h3.trans (hb.mono h4), Nat.le_trans h4 hb.size⟩

set_option maxRecDepth 100000 in
set_option maxHeartbeats 3200000 in
theorem refLook_ok (log ix key : ByteArray) (w : World) (hlog : log.size ≤ 140737488351232) (hix : ix.size ≤ 140737488351232) (hkey : key.size ≤ 140737488351232) (he : beginsE log.data.toList ix.data.toList = 0) :
    Calls Tryz.prog 116 #[.string log, .string ix, .string key] w fun e w' => e = .returned (ansV (lookS log.data.toList ix.data.toList key.data.toList)) ∧ Below w.heap.size w w' := by
  have hlen : ix.data.toList.length = ix.size := by simp
  obtain ⟨g1, g2, g3⟩ := begins_zero he
  obtain ⟨⟨v0, v1⟩, v2, v3⟩ := head_well g3
  rw [hlen] at g1
  have hb := begins_any log ix w hlog hix
  rw [beginsR_ok he] at hb
  have HB : Hid _ := hb
  have hfar : ixFar ix.data.toList < 65536 := by
    have := highL_lt ((ix.data.toList.drop 6).take 2)
    have h4 := pow256_le (show ((ix.data.toList.drop 6).take 2).length ≤ 2 by simp; omega)
    unfold ixFar; omega
  have hnn : ixN ix.data.toList < 65536 := by
    have := highL_lt ((ix.data.toList.drop 4).take 2)
    have h4 := pow256_le (show ((ix.data.toList.drop 4).take 2).length ≤ 2 by simp; omega)
    unfold ixN; omega
  have hnum := refnumber_any (hdSeed log.data.toList) (hdBits log.data.toList) key
  obtain ⟨r0, r1⟩ := numberI_range (hdSeed log.data.toList) (hdBits log.data.toList) key.data.toList (by omega) v3
  have HL : Hid (lookS log.data.toList ix.data.toList key.data.toList = lookGo log.data.toList ix.data.toList key.data.toList (numberI (hdSeed log.data.toList) (hdBits log.data.toList) key.data.toList).toNat (ixN ix.data.toList) (hdBlk log.data.toList) (ixFar ix.data.toList + 1) 0) := by
    show _ = _
    rw [lookS, if_pos he]
  obtain ⟨W, hW⟩ := Int.eq_ofNat_of_zero_le r0
  rw [hW] at hnum r0 r1 HL
  rw [Int.toNat_natCast] at HL
  have HNUM : Hid _ := hnum
  have HG : Hid (ix.size = 20 + 10 * ixN ix.data.toList + 4) := g1
  clear hb he g3 hnum hW g1 hlen
  generalize hdBlk log.data.toList = B at *
  generalize hdSeed log.data.toList = sd at *
  generalize hdBits log.data.toList = bt at *
  generalize ixFar ix.data.toList = far at *
  generalize ixN ix.data.toList = n at *
  go_enter Tryz.func116, Tryz.ntmps116
  go_wp2_with fail
  refine Calls.mono HB.out ?_
  rintro e w1 ⟨rfl, hb1⟩
  go_wp2_with fail
  refine (HNUM.out _ (by omega) (by omega) (by omega) (by omega) (by omega)).mono ?_
  rintro e w2 ⟨rfl, hb2⟩
  have hz1 : w1.heap.size < w2.heap.size := by have := hb2.size; simp at this; omega
  have d0 : w2.cell? ⟨w1.heap.size, 0, none⟩ = some (.int .i64 B) := by rw [hb2.cell (p := ⟨w1.heap.size, 0, none⟩) (by simp)]; simp
  have d1 : w2.cell? ⟨w1.heap.size, 1, none⟩ = some (.int .i64 sd) := by rw [hb2.cell (p := ⟨w1.heap.size, 1, none⟩) (by simp)]; simp
  have d2 : w2.cell? ⟨w1.heap.size, 2, none⟩ = some (.int .i64 bt) := by rw [hb2.cell (p := ⟨w1.heap.size, 2, none⟩) (by simp)]; simp
  have hb02 : Below w.heap.size w w2 := hb1.trans ((((Below.refl _ _).alloc (Nat.le_refl _) _).trans (hb2.mono (by simp))).mono hb1.size)
  go_wp2
  go_loopw [14] (fun i wr => ∃ (k : Nat), k ≤ far + 1 ∧ i = .int .i64 k ∧ ((wr.cell? ⟨w1.heap.size, 0, none⟩ = some (.int .i64 B) ∧ wr.cell? ⟨w1.heap.size, 1, none⟩ = some (.int .i64 sd) ∧ wr.cell? ⟨w1.heap.size, 2, none⟩ = some (.int .i64 bt)) ∧ Below w.heap.size w wr ∧ w1.heap.size < wr.heap.size) ∧ Hid (lookS log.data.toList ix.data.toList key.data.toList = lookGo log.data.toList ix.data.toList key.data.toList W n B (far + 1 - k) k)) (fun i _ => far + 1 - (intOf i).toNat)
  case atStart => exact ⟨0, by omega, rfl, ⟨⟨d0, d1, d2⟩, hb02, hz1⟩, HL⟩
  case round =>
    obtain ⟨k, hk, rfl, hS, HK⟩ := hrel
    clear d0 d1 d2
    by_cases hlt : k < far + 1
    · clear hz1 hb02 hb1 hb2 HL HNUM HB v0 v1 v2 v3 hk
      have hq0 : ((W : Int) + (k : Int)) % (n : Int) = (((W + k) % n : Nat) : Int) := by simp
      have hqn : (W + k) % n < n := Nat.mod_lt _ (by omega)
      obtain ⟨q, hq⟩ : ∃ q, q = (W + k) % n := ⟨_, rfl⟩
      rw [← hq] at hq0 hqn
      have HQ : Hid (q = (W + k) % n) := hq
      clear hq
      have hx := cut_run ix (20 + 10 * q) 10 (by rw [HG.out]; omega) (20 + 10 * (q : Int)) (20 + 10 * (q : Int) + 10) (by omega) (by omega)
      obtain ⟨s, hs⟩ : ∃ s, s = S ((ix.data.toList.drop (20 + 10 * q)).take 10) := ⟨_, rfl⟩
      rw [← hs] at hx
      have hsz : s.size = 10 := by
        rw [hs, S_size]
        have := HG.out
        simp; omega
      have HSL : Hid (s.data.toList = slotL ix.data.toList ((W + k) % n)) := by
        show _ = _
        rw [hs, S_data, slotL, HQ.out]
      have HSTEP : Hid (slotStep log.data.toList key.data.toList W B k (slotL ix.data.toList ((W + k) % n)) = slotStep log.data.toList key.data.toList W B k s.data.toList) := by
        show _ = _
        rw [HSL.out]
      have hkk : far + 1 - k = (far - k) + 1 := by omega
      have hk' : (k : Int) ≤ (far : Int) := by omega
      clear hs HQ HG HSL
      have z0 : s.data.toList.getD 0 0 = s[0] := by
        rw [List.getD, List.getElem?_eq_getElem (by simp; omega)]; rfl
      have z9 : s.data.toList.getD 9 0 = s[9] := by
        rw [List.getD, List.getElem?_eq_getElem (by simp; omega)]; rfl
      have HZ : Hid (s.data.toList.getD 0 0 = s[0] ∧ s.data.toList.getD 9 0 = s[9]) := ⟨z0, z9⟩
      clear z0 z9
      by_cases e0 : s[0].toNat = 0
      · have t0 : ((s[0].toNat : Int) == 0) = true := by rw [beq_iff_eq]; omega
        have HR : Hid (lookS log.data.toList ix.data.toList key.data.toList = ⟨[], k + 1, 2⟩) := by
          show _ = _
          rw [HK.out, hkk]
          exact lookGo_some (by rw [HSTEP.out, slotStep, HZ.out.1, if_pos e0])
        obtain ⟨_, hB, _⟩ := hS
        clear HK HSTEP HZ e0 hkk
        go_wp2
        go_ret3
        exact ⟨by rw [HR.out]; rfl, hB⟩
      · have t0 : ((s[0].toNat : Int) == 0) = false := by rw [beq_eq_false_iff_ne]; omega
        by_cases e1 : s[0].toNat = 1
        · have t1 : ((s[0].toNat : Int) != 1) = false := by rw [bne_eq_false_iff_eq]; omega
          have c15 := cut_run s 1 4 (by omega) 1 5 rfl rfl
          have c59 := cut_run s 5 4 (by omega) 5 9 rfl rfl
          have hw1 : highL ((s.data.toList.drop 1).take 4) < 4294967296 := highL4 _ (by simp; omega)
          have hw5 : highL ((s.data.toList.drop 5).take 4) < 4294967296 := highL4 _ (by simp; omega)
          have hl15 : ((s.data.toList.drop 1).take 4).length = 4 := by simp; omega
          have hl59 : ((s.data.toList.drop 5).take 4).length = 4 := by simp; omega
          have HST : Hid (slotStep log.data.toList key.data.toList W B k s.data.toList = if highL ((s.data.toList.drop 1).take 4) ≠ W then none else entStep key.data.toList k (blockP log.data.toList (highL ((s.data.toList.drop 5).take 4)) B) s[9].toNat) := by
            show _ = _
            rw [slotStep, HZ.out.1, HZ.out.2, if_neg e0]
            by_cases hh : highL ((s.data.toList.drop 1).take 4) ≠ W
            · rw [if_pos (.inr hh), if_pos hh]
            · rw [if_neg (by rintro (h | h); exact h e1; exact hh h), if_neg hh]
          generalize (s.data.toList.drop 1).take 4 = l15 at *
          generalize (s.data.toList.drop 5).take 4 = l59 at *
          clear HZ e0 e1
          have z15 : (S l15).size = 4 := by rw [S_size, hl15]
          have z59 : (S l59).size = 4 := by rw [S_size, hl59]
          clear hl15 hl59
          have HS : Hid _ := hS
          obtain ⟨⟨d0, d1, d2⟩, hB, hzz⟩ := hS
          go_wp2_with fail
          refine (high_any _ _ (by omega)).mono ?_
          rintro e w3 ⟨rfl, rfl⟩
          rw [S_data]
          by_cases e2 : highL l15 = W
          · have t2 : ((highL l15 : Int) != (W : Int)) = false := by rw [bne_eq_false_iff_eq]; omega
            have HST' : Hid (slotStep log.data.toList key.data.toList W B k (slotL ix.data.toList ((W + k) % n)) = entStep key.data.toList k (blockP log.data.toList (highL l59) B) s[9].toNat) := by
              show _ = _
              rw [HSTEP.out, HST.out, if_neg (by intro h; exact h e2)]
            clear HST HSTEP e2
            generalize highL l15 = x15 at *
            go_wp2_with fail
            go_region_held3 (fun w' => (w'.cell? ⟨w1.heap.size, 0, none⟩ = some (.int .i64 (B : Int)) ∧ w'.cell? ⟨w1.heap.size, 1, none⟩ = some (.int .i64 (sd : Int)) ∧ w'.cell? ⟨w1.heap.size, 2, none⟩ = some (.int .i64 (bt : Int))) ∧ Below w3.heap.size w3 w' ∧ w3.heap.size ≤ w'.heap.size) (first | (exact ⟨⟨d0, d1, d2⟩, (Below.refl _ _).drew, Nat.le_refl _⟩) | (assumption) | (exact keepL (by assumption) hzz (by assumption))) (first | (go_at_call 169; refine (high_any _ _ (by omega)).mono ?_; rintro e w' ⟨rfl, rfl⟩; rw [S_data]) | (go_at_call 170; refine (refblock_any log (highL l59) B sd bt _ hlog (by omega)).mono ?_; rintro e w' ⟨v, nn, rfl, hBI, hb4⟩))
            have hS4 := keepL (w := w3) (wx := w3.drew) ⟨⟨d0, d1, d2⟩, (Below.refl _ _).drew, Nat.le_refl _⟩ hzz hb4
            have HS4 : Hid ((_ ∧ _ ∧ _) ∧ Below w.heap.size w _ ∧ w1.heap.size < _) := ⟨hS4.1, hB.trans (hS4.2.1.mono hB.size), Nat.lt_of_lt_of_le hzz hS4.2.2⟩
            have hB4 := HS4.out.2.1
            clear hS4 d0 d1 d2 hb4 HS c15 c59 hx
            have hx9 := w64b s[9]
            have hw9 := s[9].toNat_lt
            have hbk : ∀ es k, blockP log.data.toList (highL l59) B = some (es, k) → 7 ≤ k ∧ k < 65543 ∧ 1 ≤ es.length ∧ es.length ≤ 255 := fun es k h => ⟨(blockP_some h).1, (blockP_some h).2.1, (blockP_some h).2.2.1, (blockP_some h).2.2.2.1⟩
            generalize blockP log.data.toList (highL l59) B = r at *
            clear hw5
            rcases r with _ | ⟨es, kk⟩
            · clear hbk
              obtain ⟨rfl, rfl⟩ := hBI
              have HR : Hid (lookS log.data.toList ix.data.toList key.data.toList = ⟨[], 0, 3⟩) := by
                show _ = _
                rw [HK.out, hkk]
                exact lookGo_some (by rw [HST'.out]; rfl)
              clear HK HST' hkk
              go_wp2
              go_ret3
              exact ⟨by rw [HR.out]; rfl, hB4⟩
            · obtain ⟨k1, k2, k3, k4⟩ := hbk es kk rfl
              clear hbk
              obtain ⟨rfl, hown⟩ := hBI
              obtain ⟨g, cap, rfl, hg0, hg1, hgc⟩ := own_cells3 hown (by omega)
              clear hown
              have t3 : ((kk : Int) == 0) = false := by rw [beq_eq_false_iff_ne]; omega
              by_cases e4 : s[9].toNat < es.length
              · have hgE : es[s[9].toNat]? = some es[s[9].toNat] := List.getElem?_eq_getElem e4
                have hce := cellsE_get e4
                have y0 := (hgc (s[9].toNat * 3) (by omega)).trans hce.1
                have y1 := (hgc (s[9].toNat * 3 + 1) (by omega)).trans hce.2.1
                have y2 := (hgc (s[9].toNat * 3 + 2) (by omega)).trans hce.2.2
                have HST2 : Hid (slotStep log.data.toList key.data.toList W B k (slotL ix.data.toList ((W + k) % n)) = if es[s[9].toNat].put = false then some ⟨[], 0, 3⟩ else if es[s[9].toNat].key = key.data.toList then some ⟨es[s[9].toNat].val, k + 1, 0⟩ else none) := by
                  show _ = _
                  rw [HST'.out]
                  simp only [entStep, hgE]
                clear hce hgc HST' hgE
                generalize es[s[9].toNat] = en at *
                obtain ⟨put, ky, vl⟩ := en
                dsimp only at *
                cases put
                · have HR : Hid (lookS log.data.toList ix.data.toList key.data.toList = ⟨[], 0, 3⟩) := by
                    show _ = _
                    rw [HK.out, hkk]
                    exact lookGo_some (by rw [HST2.out, if_pos rfl])
                  clear HK HST2 hkk
                  go_wp2
                  go_ret3
                  exact ⟨by rw [HR.out]; rfl, hB4⟩
                · by_cases e5 : ky = key.data.toList
                  · have t5 : ((S ky).toList == key.toList) = true := by rw [ByteArray.toList_eq, ByteArray.toList_eq, S_data, e5]; simp
                    have HR : Hid (lookS log.data.toList ix.data.toList key.data.toList = ⟨vl, k + 1, 0⟩) := by
                      show _ = _
                      rw [HK.out, hkk]
                      exact lookGo_some (by rw [HST2.out, if_neg (by decide), if_pos e5])
                    clear HK HST2 hkk e5 r0 r1 hnn g2 hq0 hqn hlog hix hkey hB
                    go_wp2
                    go_ret3
                    exact ⟨by rw [HR.out]; rfl, hB4⟩
                  · have t5 : ((S ky).toList == key.toList) = false := by rw [ByteArray.toList_eq, ByteArray.toList_eq, S_data, beq_eq_false_iff_ne]; exact e5
                    have HR : Hid (lookS log.data.toList ix.data.toList key.data.toList = lookGo log.data.toList ix.data.toList key.data.toList W n B (far + 1 - (k + 1)) (k + 1)) := by
                      show _ = _
                      rw [HK.out, hkk, lookGo_none (by rw [HST2.out, if_neg (by decide), if_neg e5]), show far + 1 - (k + 1) = far - k by omega]
                    clear HK HST2 hkk e5 r0 r1 hnn g2 hq0 hqn hlog hix hkey hB
                    go_wp2
                    go_roundw
                    case rel => exact ⟨k + 1, by omega, by go_num, HS4.out, HR⟩
                    case measure => simp [intOf]; omega
              · have HR : Hid (lookS log.data.toList ix.data.toList key.data.toList = ⟨[], 0, 3⟩) := by
                  show _ = _
                  rw [HK.out, hkk]
                  exact lookGo_some (by rw [HST'.out]; simp only [entStep, List.getElem?_eq_none (Nat.not_lt.1 e4)])
                clear HK HST' hkk hgc
                go_wp2
                go_ret3
                exact ⟨by rw [HR.out]; rfl, hB4⟩
          · have t2 : ((highL l15 : Int) != (W : Int)) = true := by rw [bne_iff_ne]; omega
            have HR : Hid (lookS log.data.toList ix.data.toList key.data.toList = lookGo log.data.toList ix.data.toList key.data.toList W n B (far + 1 - (k + 1)) (k + 1)) := by
              show _ = _
              rw [HK.out, hkk, lookGo_none (by rw [HSTEP.out, HST.out, if_pos e2]), show far + 1 - (k + 1) = far - k by omega]
            clear HK HSTEP HST e2 hkk d0 d1 d2
            go_wp2
            go_roundw
            case rel => exact ⟨k + 1, by omega, by go_num, HS.out, HR⟩
            case measure => simp [intOf]; omega
        · have t1 : ((s[0].toNat : Int) != 1) = true := by rw [bne_iff_ne]; omega
          have HR : Hid (lookS log.data.toList ix.data.toList key.data.toList = lookGo log.data.toList ix.data.toList key.data.toList W n B (far + 1 - (k + 1)) (k + 1)) := by
            show _ = _
            rw [HK.out, hkk, lookGo_none (by rw [HSTEP.out, slotStep, HZ.out.1, if_neg e0, if_pos (.inl e1)]), show far + 1 - (k + 1) = far - k by omega]
          have HS : Hid _ := hS
          clear HK HSTEP HZ e0 e1 hkk hS
          go_wp2
          go_roundw
          case rel => exact ⟨k + 1, by omega, by go_num, HS.out, HR⟩
          case measure => simp [intOf]; omega
    · obtain rfl : k = far + 1 := by omega
      have HR : Hid (lookS log.data.toList ix.data.toList key.data.toList = ⟨[], far + 1, 2⟩) := by
        show _ = _
        rw [HK.out, Nat.sub_self]; rfl
      obtain ⟨_, hB, _⟩ := hS
      clear HK HL hlt hk HG HNUM HB v0 v1 v2 v3 r0 r1 hnn g2 hz1 hb02 hb1 hb2
      go_wp2
      go_ret3
      exact ⟨by rw [HR.out]; rfl, hB⟩
end Go.Proofs.YtdhgebdbiehchaaGreatDoor
namespace Go.Proofs.YtdhgebdbiehchaaGreatDoor
open Go.RowKit
set_option linter.unusedSimpArgs false
set_option linter.unusedVariables false

theorem ent1_key {l : List UInt8} {e : Ent} {n : Nat} (h : ent1 l = some (e, n)) : e.key.length ≤ 20 := by
  unfold ent1 at h
  split at h
  · rename_i kd k v r
    split at h
    · cases h
    · rename_i hc
      split at h
      · simp at h; obtain ⟨rfl, _⟩ := h; simp; omega
      · split at h
        · simp at h; obtain ⟨rfl, _⟩ := h; simp; omega
        · cases h
  · cases h
theorem entsF_keys (n : Nat) (l : List UInt8) (es : List Ent) (h : entsF n l = some es) : ∀ e ∈ es, e.key.length ≤ 20 := by
  induction n generalizing l es with
  | zero =>
    rw [entsF] at h
    split at h
    · cases h; simp
    · cases h
  | succ n ih =>
    rw [entsF] at h
    split at h
    · cases h; simp
    · cases he : ent1 l with
      | none => rw [he] at h; cases h
      | some x =>
        obtain ⟨e, m⟩ := x
        rw [he] at h
        simp only at h
        cases hx : entsF n (l.drop m) with
        | none => rw [hx] at h; cases h
        | some y =>
          rw [hx] at h
          cases h
          intro z hz
          rcases List.mem_cons.1 hz with rfl | hz
          · exact ent1_key he
          · exact ih _ _ hx z hz
theorem blockP_keys {log : List UInt8} {a : Nat} {blk : Int} {es : List Ent} {k : Nat} (h : blockP log a blk = some (es, k)) : ∀ e ∈ es, e.key.length ≤ 20 := by
  unfold blockP at h
  split at h
  · cases h
  · split at h
    · cases h
    · unfold blkTail at h
      split at h
      · rename_i es' hes
        split at h
        · cases h
        · simp only [Option.some.injEq, Prod.mk.injEq] at h
          obtain ⟨rfl, _⟩ := h
          exact entsF_keys _ _ _ hes
      · cases h
theorem saids_keys {a i : Nat} {es : List Ent} (h : ∀ e ∈ es, e.key.length ≤ 20) : ∀ x ∈ saids a i es, x.key.length ≤ 20 := by
  induction es generalizing i with
  | nil => simp [saids]
  | cons e es ih =>
    intro x hx
    rcases List.mem_cons.1 hx with rfl | hx
    · exact h e List.mem_cons_self
    · exact ih (fun e he => h e (List.mem_cons_of_mem _ he)) x hx
theorem readF_keys (log : List UInt8) (blk : Int) (n a : Nat) : ∀ x ∈ (readF n log blk a).1, x.key.length ≤ 20 := by
  induction n generalizing a with
  | zero => simp [readF]
  | succ n ih =>
    rw [readF]
    cases h : blockP log a blk with
    | none => simp
    | some y =>
      obtain ⟨es, k⟩ := y
      intro x hx
      rcases List.mem_append.1 hx with hx | hx
      · exact saids_keys (blockP_keys h) x hx
      · exact ih _ x hx

theorem putF_mem (f : Nat) (t : List (Option Slt)) (x : Slt) (a : Nat) (y : Slt) (h : some y ∈ putF f t x a) : some y ∈ t ∨ y = x := by
  induction f generalizing t x a with
  | zero => exact .inl h
  | succ f ih =>
    rw [putF] at h
    split at h
    · rename_i z hz
      have hm : some z ∈ t := List.mem_of_getElem? hz
      split at h
      · rcases ih _ _ _ h with h1 | rfl
        · rcases List.mem_or_eq_of_mem_set h1 with h2 | h2
          · exact .inl h2
          · right; simpa using h2
        · exact .inl hm
      · exact ih _ _ _ h
    · rcases List.mem_or_eq_of_mem_set h with h2 | h2
      · exact .inl h2
      · right; simpa using h2
theorem foldl_put_mem (xs : List Slt) (t : List (Option Slt)) (y : Slt) (h : some y ∈ xs.foldl putL t) : some y ∈ t ∨ y ∈ xs := by
  induction xs generalizing t with
  | nil => exact .inl h
  | cons x xs ih =>
    rw [List.foldl_cons] at h
    rcases ih _ h with h1 | h1
    · rcases putF_mem _ _ _ _ _ h1 with h2 | rfl
      · exact .inl h2
      · exact .inr List.mem_cons_self
    · exact .inr (List.mem_cons_of_mem _ h1)
theorem fillL_mem {n : Nat} {xs : List Slt} {y : Slt} (h : some y ∈ fillL n xs) : y ∈ xs := by
  rcases foldl_put_mem _ _ _ h with h | h
  · simp at h
  · exact h

theorem keepQ {g i j k : Nat} {w wx w' : World} {a b c : Option Value} {m : Nat} (hb : Below wx.heap.size wx w') (h : (wx.cell? ⟨g, i, none⟩ = a ∧ wx.cell? ⟨g, j, none⟩ = b ∧ wx.cell? ⟨g, k, none⟩ = c) ∧ Below m w wx ∧ m ≤ wx.heap.size) (hp : g < m) :
    (w'.cell? ⟨g, i, none⟩ = a ∧ w'.cell? ⟨g, j, none⟩ = b ∧ w'.cell? ⟨g, k, none⟩ = c) ∧ Below m w w' ∧ m ≤ w'.heap.size := keepA h hp hp hp hb
theorem cat_run (a b : ByteArray) (h : a.size + b.size ≤ 1000000) : ∀ wx : World, Sem.run Tryz.prog (binOp .add 9 (.string a) (.string b)) wx = .ok (.string (a ++ b)) wx := by
  intro wx
  simp [go_sem]
  omega

def indexV (r : Option (List UInt8)) : Value := match r with
  | none => .tuple #[.string ⟨#[]⟩, .int .i64 3]
  | some l => .tuple #[.string (S l), .int .i64 0]

set_option maxRecDepth 100000 in
set_option maxHeartbeats 3200000 in
theorem refIndex_any (log : ByteArray) (w : World) (hs : log.size ≤ 140737488351232) :
    Calls Tryz.prog 115 #[.string log] w fun e w' => e = .returned (indexV (indexS log.data.toList)) ∧ Below w.heap.size w w' := by
  have hl : log.data.toList.length = log.size := by simp
  by_cases h1 : 100000 < log.size
  · have HN : Hid (indexS log.data.toList = none) := by
      show _ = _
      rw [indexS, hl, if_pos h1]
    go_enter Tryz.func115, Tryz.ntmps115
    go_wp2
    go_ret2
    exact ⟨by rw [HN.out]; rfl, Below.refl _ _⟩
  · have HI : Hid (indexS log.data.toList = _) := indexS.eq_1 log.data.toList
    go_enter Tryz.func115, Tryz.ntmps115
    go_wp2_with fail
    refine (refRead_any log _ (by omega)).mono ?_
    rintro e w1 ⟨v, rest, b, sd, bt, rfl, hRI, hb1⟩
    cases hh : headB log.data.toList
    · have HN : Hid (indexS log.data.toList = none) := by
        show _ = _
        rw [HI.out, hl, if_neg h1, if_pos hh]
      obtain ⟨rfl, rfl⟩ := hRI.2 hh
      clear HI hRI hh
      go_wp2
      go_ret2
      exact ⟨by rw [HN.out]; rfl, hb1.alloc hb1.size _⟩
    · obtain ⟨rfl, rfl, rfl, rfl, hrow, hrl⟩ := hRI.1 hh
      have hkeys : ∀ x ∈ (readL log.data.toList (hdBlk log.data.toList) 14).1, x.key.length ≤ 20 := readF_keys _ _ _ _
      have hend : (readL log.data.toList (hdBlk log.data.toList) 14).2 ≤ log.size := by
        have h14 : 14 ≤ log.size := by
          simp only [headB, Bool.and_eq_true, decide_eq_true_eq] at hh
          omega
        have := (readF_rise log.data.toList (hdBlk log.data.toList) (log.data.toList.length - 14) 14).2.2.2 (by omega)
        rw [hl] at this
        unfold readL
        rw [hl]; exact this
      have hplc : ∀ x ∈ (readL log.data.toList (hdBlk log.data.toList) 14).1, x.blk < log.size ∧ x.no < 255 := fun x hx => by
        have := (readF_rise log.data.toList (hdBlk log.data.toList) (log.data.toList.length - 14) 14).2.1 x hx
        omega
      obtain ⟨⟨v0, v1⟩, v2, v3⟩ := head_well hh
      have HI2 : Hid (indexS log.data.toList = if (readL log.data.toList (hdBlk log.data.toList) 14).2 < log.size then none else if 2000 < (liveL (readL log.data.toList (hdBlk log.data.toList) 14).1).length then none else some (indexB log.data.toList (hdSeed log.data.toList) (hdBits log.data.toList) (liveL (readL log.data.toList (hdBlk log.data.toList) 14).1))) := by
        show _ = _
        rw [HI.out, hl, if_neg h1, if_neg (by rw [hh]; decide)]
      clear hRI HI hh
      rw [hl]
      generalize hdBlk log.data.toList = B at *
      generalize hdSeed log.data.toList = sdn at *
      generalize hdBits log.data.toList = btn at *
      generalize readL log.data.toList B 14 = R at *
      obtain ⟨sds, en⟩ := R
      dsimp only at *
      by_cases h2 : en < log.size
      · have HN : Hid (indexS log.data.toList = none) := by
          show _ = _
          rw [HI2.out, if_pos h2]
        have t1 : (0 : Int) < (log.size : Int) - (en : Int) := by omega
        clear HI2 hrow hkeys hplc
        go_wp2
        go_ret2
        exact ⟨by rw [HN.out]; rfl, hb1.alloc hb1.size _⟩
      · have t1 : ¬ (0 : Int) < (log.size : Int) - (en : Int) := by omega
        have HI3 : Hid (indexS log.data.toList = if 2000 < (liveL sds).length then none else some (indexB log.data.toList sdn btn (liveL sds))) := by
          show _ = _
          rw [HI2.out, if_neg h2]
        clear HI2
        obtain ⟨pv, cv, rfl⟩ := own_len hrow
        have HROW : Hid (w1.ownsRow w.heap.size 302 5 (.slice pv sds.length cv) sds.length (cellsS sds)) := hrow
        clear hrow
        go_wp2_with fail
        refine (refLive_any _ sds _ w.heap.size (HROW.out.alloc _) hrl).mono ?_
        rintro e w2 ⟨v', rfl, hrow2, hb2⟩
        have hz2 : w1.heap.size < w2.heap.size := by have := hb2.size; simp at this; omega
        have hb02 : Below w.heap.size w w2 := (hb1.alloc hb1.size _).trans (hb2.mono (by have := hb1.size; simp; omega))
        have d0 : w2.cell? ⟨w1.heap.size, 0, none⟩ = some (.int .i64 B) := by rw [hb2.cell (p := ⟨w1.heap.size, 0, none⟩) (by simp)]; simp
        have d1 : w2.cell? ⟨w1.heap.size, 1, none⟩ = some (.int .i64 sdn) := by rw [hb2.cell (p := ⟨w1.heap.size, 1, none⟩) (by simp)]; simp
        have d2 : w2.cell? ⟨w1.heap.size, 2, none⟩ = some (.int .i64 btn) := by rw [hb2.cell (p := ⟨w1.heap.size, 2, none⟩) (by simp)]; simp
        have hkl : ∀ x ∈ liveL sds, x.key.length ≤ 100000 := fun x hx => Nat.le_trans (hkeys x (liveL_mem hx).1) (by omega)
        have hsl : ∀ y : Slt, some y ∈ tableOf sdn btn (liveL sds) → y.num < 4294967296 ∧ y.blk ≤ 100000 ∧ y.no ≤ 255 := fun y hy => by
          obtain ⟨x, hx, rfl⟩ := List.mem_map.1 (fillL_mem hy)
          have hr := numberI_range sdn btn x.key (by omega) v3
          have hp := hplc x (liveL_mem hx).1
          simp only [sltOf]
          omega
        clear hkeys HROW hb2 hplc
        generalize liveL sds = live at *
        obtain ⟨pv2, cv2, rfl⟩ := own_len hrow2
        have HROW2 : Hid (w2.ownsRow (w1.alloc (.cells #[.int .i64 (B : Int), .int .i64 (sdn : Int), .int .i64 (btn : Int)] 29)).heap.size 302 5 (.slice pv2 live.length cv2) live.length (cellsS live)) := hrow2
        clear hrow2
        by_cases h3 : 2000 < live.length
        · have HN : Hid (indexS log.data.toList = none) := by
            show _ = _
            rw [HI3.out, if_pos h3]
          clear HI3
          go_wp2
          go_ret2
          exact ⟨by rw [HN.out]; rfl, hb02⟩
        · have HN : Hid (indexS log.data.toList = some (indexB log.data.toList sdn btn live)) := by
            show _ = _
            rw [HI3.out, if_neg h3]
          clear HI3
          go_wp2_with fail
          refine (refSlots_any _ live _ _ _ _ _ HROW2.out (by omega) (by omega) (by omega) (by omega) (by omega) hkl).mono ?_
          rintro e w3 ⟨g, rfl, hrow3, hb3⟩
          have hn1 := sizeL_bound (show live.length ≤ 2000 by omega)
          have htl : (tableOf sdn btn live).length = sizeL live.length := fillL_length _ _
          have HIX : Hid (indexB log.data.toList sdn btn live = sealL (frontB live.length (sizeL live.length) (farP (sizeL live.length) (tableOf sdn btn live) (sizeL live.length)) log.data.toList.length (sumI log.data.toList).toNat) ++ sealL (tabB (tableOf sdn btn live))) := rfl
          generalize sizeL live.length = n at *
          generalize tableOf sdn btn live = t at *
          have hb03 : Below w.heap.size w w3 := hb02.trans (hb3.mono hb02.size)
          clear hb02 hb3 d0 d1 d2 HROW2 hkl
          go_wp2
          go_loopw [10, 11, 12] (fun fr sv i wr => ∃ (k : Nat) (st : ByteArray), k ≤ n ∧ i = .int .i64 k ∧ fr = .int .i64 (farP n t k : Nat) ∧ sv = .string st ∧ Hid (st = S (tabB (t.take k))) ∧ st.size = 10 * k ∧ wr.ownsRow w2.heap.size 263 5 (.slice (some ⟨g, 0, none⟩) n n) n (cellsT n t) ∧ Below w.heap.size w wr) (fun _ _ i _ => n - (intOf i).toNat)
          case atStart => exact ⟨0, ⟨#[]⟩, Nat.zero_le _, rfl, rfl, rfl, rfl, rfl, hrow3, hb03⟩
          case round =>
            obtain ⟨k, st, hk, rfl, rfl, rfl, HST, hstz, hrow, hb⟩ := hrel
            clear hrow3 hb03
            have hfar := farP_lt (n := n) (by omega) t k
            by_cases hkn : k < n
            · have hta : t[k]? = some t[k] := List.getElem?_eq_getElem (by omega)
              have HTK : Hid (tabB (t.take (k + 1)) = tabB (t.take k) ++ sltB t[k]) := by
                show _ = _
                rw [List.take_succ_eq_append_getElem (by omega), tabB_snoc]
              cases hy : t[k] with
              | none =>
                rw [hy] at hta HTK
                have z0 := (hrow.cellAt (k * 5) (by omega)).trans (cellsT_at hta 0 (by omega))
                simp only [sltC, List.getElem?_cons_zero, List.getElem?_cons_succ] at z0
                have HFP : Hid (farP n t (k + 1) = farP n t k) := farP_none hta
                clear hy hta
                have HROWK : Hid (wr.ownsRow w2.heap.size 263 5 (.slice (some ⟨g, 0, none⟩) n n) n (cellsT n t)) := hrow
                clear hrow
                go_wp2_with fail
                refine (low_any 0 10 _ (by omega) (by omega) (by omega)).mono ?_
                rintro e w4 ⟨rfl, hb4⟩
                rw [show (0 : Int).toNat = 0 from rfl]
                have hz10 := low_sz 0 10
                have HAP : Hid (st ++ S (lowL 0 10) = S (tabB (t.take (k + 1)))) := by
                  show _ = _
                  rw [HST.out, S_append, HTK.out]; rfl
                generalize S (lowL 0 10) = lz at *
                generalize farP n t k = fk at *
                go_wp2
                go_roundw
                case rel => exact ⟨k + 1, st ++ lz, by omega, by first | rfl | go_num, by rw [HFP.out], rfl, HAP.out, by simp; omega, own_below HROWK.out hb4 (Nat.le_refl _), hb.trans (hb4.mono hb.size)⟩
                case measure => first | (simp [intOf]; omega) | (simp [intOf])
              | some y =>
                rw [hy] at hta HTK
                obtain ⟨z0, z1, z2, z3, z4⟩ := slot_at hrow hta (by omega)
                obtain ⟨u1, u2, u3⟩ := hsl y (List.mem_of_getElem? hta)
                have hgr : g < wr.heap.size := by
                  obtain ⟨g', c', he, _, hgw', _⟩ := own_cellsN hrow (by omega)
                  simp at he; omega
                have HFP : Hid (farP n t (k + 1) = max (farP n t k) (awayN n y k)) := farP_some hta
                have hawl := awayN_lt (n := n) (by omega) y k
                have HAY := refAway_any n y k
                clear hy hta hsl
                have HROWK : Hid (wr.ownsRow w2.heap.size 263 5 (.slice (some ⟨g, 0, none⟩) n n) n (cellsT n t)) := hrow
                clear hrow
                have hmy : y.num % n < n := Nat.mod_lt _ (by omega)
                generalize y.num % n = yq at *
                generalize awayN n y k = d at *
                generalize farP n t k = fk at *
                go_wp2_with fail
                refine (HAY _ (by omega) (by omega)).mono ?_
                rintro e w4 ⟨rfl, hb4⟩
                clear HAY
                have x1 := (hb4.cell (p := ⟨g, k * 5 + 1, none⟩) hgr).trans z1
                have x2 := (hb4.cell (p := ⟨g, k * 5 + 2, none⟩) hgr).trans z2
                have x3 := (hb4.cell (p := ⟨g, k * 5 + 3, none⟩) hgr).trans z3
                have hg4 : g < w4.heap.size := Nat.lt_of_lt_of_le hgr hb4.size
                have HSTZ : Hid (st.size = 10 * k) := hstz
                have hs6 : st.size ≤ 60000 := by omega
                have HROW4 : Hid (w4.ownsRow w2.heap.size 263 5 (.slice (some ⟨g, 0, none⟩) n n) n (cellsT n t)) := own_below HROWK.out hb4 (Nat.le_refl _)
                have HB4 : Hid (Below w.heap.size w w4) := hb.trans (hb4.mono hb.size)
                obtain ⟨o1, ho1⟩ : ∃ o, o = S (lowL 1 1) := ⟨_, rfl⟩
                obtain ⟨o2, ho2⟩ : ∃ o, o = S (lowL y.num 4) := ⟨_, rfl⟩
                obtain ⟨o3, ho3⟩ : ∃ o, o = S (lowL y.blk 4) := ⟨_, rfl⟩
                obtain ⟨o4, ho4⟩ : ∃ o, o = S (lowL y.no 1) := ⟨_, rfl⟩
                have zz1 : o1.size = 1 := by rw [ho1, low_sz]
                have zz2 : o2.size = 4 := by rw [ho2, low_sz]
                have zz3 : o3.size = 4 := by rw [ho3, low_sz]
                have zz4 : o4.size = 1 := by rw [ho4, low_sz]
                have L1 : Hid (∀ wx : World, Calls Tryz.prog 110 #[.int .i64 1, .int .i64 1] wx fun e w' => e = .returned (.string o1) ∧ Below wx.heap.size wx w') := fun wx => by
                  rw [ho1]; exact low_any 1 1 wx (by omega) (by omega) (by omega)
                have L2 : Hid (∀ wx : World, Calls Tryz.prog 110 #[.int .i64 (y.num : Int), .int .i64 4] wx fun e w' => e = .returned (.string o2) ∧ Below wx.heap.size wx w') := fun wx => by
                  rw [ho2]; have := low_any (y.num : Int) 4 wx (by omega) (by omega) (by omega); rwa [Int.toNat_natCast] at this
                have L3 : Hid (∀ wx : World, Calls Tryz.prog 110 #[.int .i64 (y.blk : Int), .int .i64 4] wx fun e w' => e = .returned (.string o3) ∧ Below wx.heap.size wx w') := fun wx => by
                  rw [ho3]; have := low_any (y.blk : Int) 4 wx (by omega) (by omega) (by omega); rwa [Int.toNat_natCast] at this
                have L4 : Hid (∀ wx : World, Calls Tryz.prog 110 #[.int .i64 (y.no : Int), .int .i64 1] wx fun e w' => e = .returned (.string o4) ∧ Below wx.heap.size wx w') := fun wx => by
                  rw [ho4]; have := low_any (y.no : Int) 1 wx (by omega) (by omega) (by omega); rwa [Int.toNat_natCast] at this
                have HAP : Hid ((((st ++ o1) ++ o2) ++ o3) ++ o4 = S (tabB (t.take (k + 1)))) := by
                  show _ = _
                  rw [ho1, ho2, ho3, ho4, HST.out, S_append, S_append, S_append, S_append, HTK.out]
                  congr 1
                  simp [sltB, List.append_assoc]
                have HZ : Hid ((((st ++ o1) ++ o2) ++ o3 ++ o4).size = 10 * (k + 1)) := by
                  show _ = _
                  simp [zz1, zz2, zz3, zz4]; omega
                have q0 : ¬ 9223372036854775807 < st.size + o1.size := by omega
                have p0 : st.size + o1.size ≤ 9223372036854775807 := by omega
                have q1 : ¬ 9223372036854775807 < st.size + o1.size + o2.size := by omega
                have p1 : st.size + o1.size + o2.size ≤ 9223372036854775807 := by omega
                have q2 : ¬ 9223372036854775807 < st.size + o1.size + o2.size + o3.size := by omega
                have p2 : st.size + o1.size + o2.size + o3.size ≤ 9223372036854775807 := by omega
                have q3 : ¬ 9223372036854775807 < st.size + o1.size + o2.size + o3.size + o4.size := by omega
                have p3 : st.size + o1.size + o2.size + o3.size + o4.size ≤ 9223372036854775807 := by omega
                clear z0 z1 z2 z3 z4 hb4 hb HROWK hstz hmy HTK ho1 ho2 ho3 ho4 HST hs6 zz1 zz2 zz3 zz4 u1 u2 u3 hgr
                have HFM : Hid (fk < d → farP n t (k + 1) = d) := fun h => by rw [HFP.out]; omega
                have HFN : Hid (¬ fk < d → farP n t (k + 1) = fk) := fun h => by rw [HFP.out]; omega
                clear HFP
                have HKN : Hid (k < n ∧ n ≤ 5000) := ⟨hkn, hn1.2⟩
                have hk5 : k ≤ 5000 := by omega
                clear hs hl h1 v0 v1 v2 v3 hrl hend h2 t1 hz2 h3 hn1 htl hk hawl hfar
                obtain ⟨fx, hfx⟩ : ∃ fx, fx = farP n t (k + 1) := ⟨_, rfl⟩
                have HFX : Hid (fx = farP n t (k + 1)) := hfx
                clear hfx
                by_cases hdf : fk < d
                · have HFY : Hid (d = farP n t (k + 1)) := (HFM.out hdf).symm
                  go_wp2_with fail
                  go_region_held3 (fun w' => (w'.cell? ⟨g, k * 5 + 1, none⟩ = some (.int .i64 (y.num : Int)) ∧ w'.cell? ⟨g, k * 5 + 2, none⟩ = some (.int .i64 (y.blk : Int)) ∧ w'.cell? ⟨g, k * 5 + 3, none⟩ = some (.int .i64 (y.no : Int))) ∧ Below w4.heap.size w4 w' ∧ w4.heap.size ≤ w'.heap.size) (first | (exact keepQ hb8 (by assumption) hg4) | (exact keepQ hb7 (by assumption) hg4) | (exact keepQ hb6 (by assumption) hg4) | (exact keepQ hb5 (by assumption) hg4) | (exact ⟨⟨x1, x2, x3⟩, (Below.refl _ _).drew, Nat.le_refl _⟩)) (first | (go_at_call_of 110 (Value.int .i64 (y.num : Int)); refine (L2.out _).mono ?_; rintro e w' ⟨rfl, hb6⟩) | (go_at_call_of 110 (Value.int .i64 (y.blk : Int)); refine (L3.out _).mono ?_; rintro e w' ⟨rfl, hb7⟩) | (go_at_call_of 110 (Value.int .i64 (y.no : Int)); refine (L4.out _).mono ?_; rintro e w' ⟨rfl, hb8⟩) | (go_at_call_of 110 (Value.int .i64 1); refine (L1.out _).mono ?_; rintro e w' ⟨rfl, hb5⟩))
                  have hx := ‹(_ ∧ _) ∧ Below _ _ _ ∧ _›
                  clear q0 q1 q2 q3 p0 p1 p2 p3
                  go_wp2
                  go_roundw
                  case rel => exact ⟨k + 1, _, HKN.out.1, by first | rfl | go_num, by rw [← HFY.out], rfl, HAP.out, HZ.out, own_below HROW4.out hx.2.1 (Nat.le_refl _), HB4.out.trans (hx.2.1.mono HB4.out.size)⟩
                  case measure => first | (simp [intOf]; omega) | (simp [intOf])
                · have HFY : Hid (fk = farP n t (k + 1)) := (HFN.out hdf).symm
                  go_wp2_with fail
                  go_region_held3 (fun w' => (w'.cell? ⟨g, k * 5 + 1, none⟩ = some (.int .i64 (y.num : Int)) ∧ w'.cell? ⟨g, k * 5 + 2, none⟩ = some (.int .i64 (y.blk : Int)) ∧ w'.cell? ⟨g, k * 5 + 3, none⟩ = some (.int .i64 (y.no : Int))) ∧ Below w4.heap.size w4 w' ∧ w4.heap.size ≤ w'.heap.size) (first | (exact keepQ hb8 (by assumption) hg4) | (exact keepQ hb7 (by assumption) hg4) | (exact keepQ hb6 (by assumption) hg4) | (exact keepQ hb5 (by assumption) hg4) | (exact ⟨⟨x1, x2, x3⟩, (Below.refl _ _).drew, Nat.le_refl _⟩)) (first | (go_at_call_of 110 (Value.int .i64 (y.num : Int)); refine (L2.out _).mono ?_; rintro e w' ⟨rfl, hb6⟩) | (go_at_call_of 110 (Value.int .i64 (y.blk : Int)); refine (L3.out _).mono ?_; rintro e w' ⟨rfl, hb7⟩) | (go_at_call_of 110 (Value.int .i64 (y.no : Int)); refine (L4.out _).mono ?_; rintro e w' ⟨rfl, hb8⟩) | (go_at_call_of 110 (Value.int .i64 1); refine (L1.out _).mono ?_; rintro e w' ⟨rfl, hb5⟩))
                  have hx := ‹(_ ∧ _) ∧ Below _ _ _ ∧ _›
                  clear q0 q1 q2 q3 p0 p1 p2 p3
                  go_wp2
                  go_roundw
                  case rel => exact ⟨k + 1, _, HKN.out.1, by first | rfl | go_num, by rw [← HFY.out], rfl, HAP.out, HZ.out, own_below HROW4.out hx.2.1 (Nat.le_refl _), HB4.out.trans (hx.2.1.mono HB4.out.size)⟩
                  case measure => first | (simp [intOf]; omega) | (simp [intOf])
            · have hke : k = n := by omega
              subst hke
              have hl2 : (tabB (t.take k)).length = st.size := by
                rw [HST.out, S_size]
              rw [show t.take k = t from List.take_of_length_le (by omega)] at HST hl2
              have hM := Int.eq_ofNat_of_zero_le (show 0 ≤ fnv F0 log.data.toList % 4294967296 from Int.emod_nonneg _ (by decide))
              have hM2 : fnv F0 log.data.toList % 4294967296 < 4294967296 := Int.emod_lt_of_pos _ (by decide)
              have hsum := sum_any log
              obtain ⟨M, hM⟩ := hM
              rw [hM] at hsum hM2
              have HM : Hid ((sumI log.data.toList).toNat = M) := by
                show _ = _
                rw [sumI, hM]; rfl
              have HSUM : Hid _ := hsum
              clear hM hsum
              generalize hfk : farP k t k = fk at *
              have HFK : Hid (farP k t k = fk) := hfk
              clear hfk
              have hsz := st.size
              have y1 := low_sz live.length 2
              have y2 := low_sz k 2
              have y3 := low_sz fk 2
              have y4 := low_sz log.size 4
              have y5 := low_sz M 4
              have y0 : (⟨#[73, 88]⟩ : ByteArray).size = 2 := rfl
              obtain ⟨o1, ho1⟩ : ∃ o, o = S (lowL live.length 2) := ⟨_, rfl⟩
              obtain ⟨o2, ho2⟩ : ∃ o, o = S (lowL k 2) := ⟨_, rfl⟩
              obtain ⟨o3, ho3⟩ : ∃ o, o = S (lowL fk 2) := ⟨_, rfl⟩
              obtain ⟨o4, ho4⟩ : ∃ o, o = S (lowL log.size 4) := ⟨_, rfl⟩
              obtain ⟨o5, ho5⟩ : ∃ o, o = S (lowL M 4) := ⟨_, rfl⟩
              rw [← ho1] at y1
              rw [← ho2] at y2
              rw [← ho3] at y3
              rw [← ho4] at y4
              rw [← ho5] at y5
              have L1 : Hid (∀ wx : World, Calls Tryz.prog 110 #[.int .i64 (live.length : Int), .int .i64 2] wx fun e w' => e = .returned (.string o1) ∧ Below wx.heap.size wx w') := fun wx => by
                rw [ho1]; have := low_any (live.length : Int) 2 wx (by omega) (by omega) (by omega); rwa [Int.toNat_natCast] at this
              have L2 : Hid (∀ wx : World, Calls Tryz.prog 110 #[.int .i64 (k : Int), .int .i64 2] wx fun e w' => e = .returned (.string o2) ∧ Below wx.heap.size wx w') := fun wx => by
                rw [ho2]; have := low_any (k : Int) 2 wx (by omega) (by omega) (by omega); rwa [Int.toNat_natCast] at this
              have L3 : Hid (∀ wx : World, Calls Tryz.prog 110 #[.int .i64 (fk : Int), .int .i64 2] wx fun e w' => e = .returned (.string o3) ∧ Below wx.heap.size wx w') := fun wx => by
                rw [ho3]; have := low_any (fk : Int) 2 wx (by omega) (by omega) (by omega); rwa [Int.toNat_natCast] at this
              have L4 : Hid (∀ wx : World, Calls Tryz.prog 110 #[.int .i64 (log.size : Int), .int .i64 4] wx fun e w' => e = .returned (.string o4) ∧ Below wx.heap.size wx w') := fun wx => by
                rw [ho4]; have := low_any (log.size : Int) 4 wx (by omega) (by omega) (by omega); rwa [Int.toNat_natCast] at this
              have L5 : Hid (∀ wx : World, Calls Tryz.prog 110 #[.int .i64 (M : Int), .int .i64 4] wx fun e w' => e = .returned (.string o5) ∧ Below wx.heap.size wx w') := fun wx => by
                rw [ho5]; have := low_any (M : Int) 4 wx (by omega) (by omega) (by omega); rwa [Int.toNat_natCast] at this
              have HFR : Hid (((((((⟨#[73, 88]⟩ : ByteArray) ++ o1) ++ o2) ++ o3) ++ o4) ++ o5) = S (frontB live.length k fk log.data.toList.length (sumI log.data.toList).toNat)) := by
                show _ = _
                rw [ho1, ho2, ho3, ho4, ho5, HM.out, hl, show (⟨#[73, 88]⟩ : ByteArray) = S [73, 88] from rfl, S_append, S_append, S_append, S_append, S_append]
                rfl
              clear ho1 ho2 ho3 ho4 ho5
              have hbx : Hid (Below w.heap.size w wr) := hb
              clear hb hrow hsl
              have q0 : ¬ 9223372036854775807 < 2 + o1.size := by omega
              have q1 : ¬ 9223372036854775807 < 2 + o1.size + o2.size := by omega
              have q2 : ¬ 9223372036854775807 < 2 + o1.size + o2.size + o3.size := by omega
              have q3 : ¬ 9223372036854775807 < 2 + o1.size + o2.size + o3.size + o4.size := by omega
              have q4 : ¬ 9223372036854775807 < 2 + o1.size + o2.size + o3.size + o4.size + o5.size := by omega
              have hsz16 : ((((((⟨#[73, 88]⟩ : ByteArray) ++ o1) ++ o2) ++ o3) ++ o4) ++ o5).size = 16 := by
                rw [HFR.out, S_size, frontB_length]
              go_wp2_with fail
              refine (L1.out _).mono ?_
              rintro e a1 ⟨rfl, g1⟩
              go_wp2_with fail
              refine (L2.out _).mono ?_
              rintro e a2 ⟨rfl, g2⟩
              go_wp2_with fail
              refine (L3.out _).mono ?_
              rintro e a3 ⟨rfl, g3⟩
              go_wp2_with fail
              refine (L4.out _).mono ?_
              rintro e a4 ⟨rfl, g4⟩
              go_wp2_with fail
              refine (HSUM.out _ (by omega)).mono ?_
              rintro e a5 ⟨rfl, rfl⟩
              go_wp2_with fail
              refine (L5.out _).mono ?_
              rintro e a6 ⟨rfl, g6⟩
              have HBB : Hid (Below w.heap.size w a6) := ((((hbx.out.trans (g1.mono hbx.out.size)).trans (g2.mono (Nat.le_trans hbx.out.size g1.size))).trans (g3.mono (Nat.le_trans (Nat.le_trans hbx.out.size g1.size) g2.size))).trans (g4.mono (Nat.le_trans (Nat.le_trans (Nat.le_trans hbx.out.size g1.size) g2.size) g3.size))).trans (g6.mono (Nat.le_trans (Nat.le_trans (Nat.le_trans (Nat.le_trans hbx.out.size g1.size) g2.size) g3.size) g4.size))
              clear g1 g2 g3 g4 g6 L1 L2 L3 L4 L5 HSUM
              go_wp2_with fail
              refine (sealed_any _ _ (by omega)).mono ?_
              rintro e a7 ⟨rfl, g7⟩
              rw [HFR.out, S_data]
              have z7 : (S (sealL (frontB live.length k fk log.data.toList.length (sumI log.data.toList).toNat))).size = 20 := by rw [S_size, sealL_length, frontB_length]
              have HE1 : Hid (S (sealL (frontB live.length k fk log.data.toList.length (sumI log.data.toList).toNat)) ++ S (sealL (tabB t)) = S (indexB log.data.toList sdn btn live)) := by
                show _ = _
                rw [S_append, HIX.out]
              generalize S (sealL (frontB live.length k fk log.data.toList.length (sumI log.data.toList).toNat)) = F1 at *
              go_wp2_with fail
              refine (sealed_any st _ (by omega)).mono ?_
              rintro e a8 ⟨rfl, g8⟩
              rw [show st.data.toList = tabB t by rw [HST.out, S_data]]
              have z8 : (S (sealL (tabB t))).size ≤ 60000 := by rw [S_size, sealL_length]; omega
              generalize S (sealL (tabB t)) = F2 at *
              have HBE : Hid (Below w.heap.size w a8) := (HBB.out.trans (g7.mono HBB.out.size)).trans (g8.mono (Nat.le_trans HBB.out.size g7.size))
              clear g7 g8 q0 q1 q2 q3 q4
              go_wp2
              go_ret2
              exact ⟨by rw [HN.out, HE1.out]; rfl, HBE.out⟩
end Go.Proofs.YtdhgebdbiehchaaGreatDoor
namespace Go.Proofs.YtdhgebdbiehchaaGreatDoor
open Go.RowKit
set_option linter.unusedSimpArgs false
set_option linter.unusedVariables false

/-- What a round is told: where a block begins, the slice of its entries, these, how many bytes it has. -/
structure Tb where
  a : Nat
  v : Value
  es : List Ent
  k : Nat
def Tb.sd (x : Tb) : List Sd := saids x.a 0 x.es
def sds (xs : List Tb) : List Sd := xs.flatMap Tb.sd
theorem sds_snoc (xs : List Tb) (x : Tb) : sds (xs ++ [x]) = sds xs ++ x.sd := by simp [sds]
/-- They follow one another from byte a to byte e. -/
def chain (log : List UInt8) (blk : Int) : Nat → List Tb → Nat → Prop
  | a, [], e => e = a
  | a, x :: xs, e => x.a = a ∧ blockP log a blk = some (x.es, x.k) ∧ chain log blk (a + x.k) xs e
theorem chain_snoc {log : List UInt8} {blk : Int} {xs : List Tb} {x : Tb} : ∀ {a e : Nat}, chain log blk a xs e → x.a = e → blockP log e blk = some (x.es, x.k) → chain log blk a (xs ++ [x]) (e + x.k) := by
  induction xs with
  | nil =>
    intro a e h h1 h2
    have : e = a := h
    subst this
    exact ⟨h1, h2, rfl⟩
  | cons y xs ih =>
    intro a e h h1 h2
    exact ⟨h.1, h.2.1, ih h.2.2 h1 h2⟩
theorem chain_read {log : List UInt8} {blk : Int} {xs : List Tb} : ∀ {a e : Nat}, chain log blk a xs e → blockP log e blk = none → readL log blk a = (sds xs, e) := by
  induction xs with
  | nil =>
    intro a e h hn
    have : e = a := h
    subst this
    exact readL_none hn
  | cons x xs ih =>
    intro a e h hn
    obtain ⟨h1, h2, h3⟩ := h
    rw [readL_some h2, ih h3 hn]
    show _ = (x.sd ++ sds xs, e)
    rw [Tb.sd, h1]
theorem chain_rise {log : List UInt8} {blk : Int} {xs : List Tb} : ∀ {a e : Nat}, chain log blk a xs e → (sds xs).Pairwise placeLt ∧ (∀ y ∈ sds xs, a ≤ y.blk ∧ y.blk < e ∧ y.no < 255 ∧ y.key.length ≤ 20) ∧ a ≤ e ∧ (a ≤ log.length → e ≤ log.length) ∧ (sds xs).length ≤ 255 * (e - a) := by
  induction xs with
  | nil =>
    intro a e h
    have : e = a := h
    subst this
    exact ⟨List.Pairwise.nil, by simp [sds], Nat.le_refl _, fun h => h, by simp [sds]⟩
  | cons x xs ih =>
    intro a e h
    obtain ⟨h1, h2, h3⟩ := h
    obtain ⟨i1, i2, i3, i4, i5⟩ := ih h3
    have hb := blockP_some h2
    obtain ⟨s1, s2⟩ := saids_rise x.a 0 x.es
    have s3 := saids_keys (a := x.a) (i := 0) (blockP_keys h2)
    have e1 : sds (x :: xs) = saids x.a 0 x.es ++ sds xs := rfl
    rw [e1]
    refine ⟨?_, ?_, by omega, fun _ => i4 (by omega), ?_⟩
    · rw [List.pairwise_append]
      refine ⟨s1, i1, fun y hy z hz => .inl ?_⟩
      have := s2 y hy
      have := i2 z hz
      omega
    · intro y hy
      rcases List.mem_append.1 hy with hy | hy
      · have := s2 y hy
        have := s3 y hy
        omega
      · have := i2 y hy
        omega
    · rw [List.length_append, saids_length]
      omega

/-- The live ones of what is said up to some entry of a block. -/
theorem lives_of {l : List Sd} (h : l.Pairwise placeLt) (hs : ∀ y ∈ l, y.blk < 4294967296 ∧ y.no < 4294967296) : Lives (liveL l) :=
  ⟨liveL_keys l, liveL_rise h, fun x hx => hs x (liveL_mem hx).1⟩
end Go.Proofs.YtdhgebdbiehchaaGreatDoor
