/- On the way: RefLook, RecHead, RecEnt, RecGood, Found, Given, Wrote, Dk, DkOk, Plays, Begun. -/
import Derived.Test.YtdhgebdbiehchaaGreatDoorB08
import Derived.Test.YtdhgebdbiehchaaGreatDoorB03
import Derived.Deep.DeepCutAuto
namespace Go.Proofs.YtdhgebdbiehchaaGreatDoor
open Go.RowKit
set_option linter.unusedSimpArgs false
set_option linter.unusedVariables false
set_option maxRecDepth 100000
set_option maxHeartbeats 3200000
def ansV (a : Ans) : Value := .tuple #[.string (S a.val),.int .i64 a.num,.int .i64 a.err]
theorem begins_zero {log ix : List UInt8} (h : beginsE log ix = 0) : ix.length = 20 + 10 * ixN ix + 4 /\ ixN ix ≠ 0 /\ headB log = true := by
 unfold beginsE at h
 by_cases h1 : ix.length < 20 \/ sealedB (ix.take 20) = false \/ (ix.take 2 == [73,88]) = false \/ ixN ix = 0 \/ ix.length ≠ 20 + 10 * ixN ix + 4
 ·rw [if_pos h1] at h; exact absurd h (by decide)
 ·rw [if_neg h1] at h
  by_cases h2 : ixSize ix ≠ log.length \/ (ixSum ix : Int) ≠ sumI log
  ·rw [if_pos h2] at h; exact absurd h (by decide)
  ·rw [if_neg h2] at h
   by_cases h3 : headB log = false
   ·rw [if_pos h3] at h; exact absurd h (by decide)
   ·simp only [not_or] at h1
    exact ⟨by omega,h1.2.2.2.1,by simpa using h3⟩
theorem head_well {l : List UInt8} (h : headB l = true) : (1 <= (hdBlk l : Int) /\ (hdBlk l : Int) <= 400) /\ (hdSeed l : Int) <= 4294967295 /\ (hdBits l : Int) <= 32 := by
 simp only [headB,wellB,Bool.and_eq_true,decide_eq_true_eq] at h
 omega
theorem refLook_err (log ix key : ByteArray) (w : World) (hlog : log.size <= 140737488351232) (hix : ix.size <= 140737488351232) (he : beginsE log.data.toList ix.data.toList ≠ 0) :
  Calls Tryz.prog 116 #[.string log,.string ix,.string key] w fun e w' => e = .returned (ansV (lookS log.data.toList ix.data.toList key.data.toList)) /\ Below w.heap.size w w' := by
 have HL : Hid (lookS log.data.toList ix.data.toList key.data.toList = ⟨[],0,beginsE log.data.toList ix.data.toList⟩) := by
  show _ = _
  rw [lookS,if_neg he]
 have hb := begins_any log ix w hlog hix
 rw [beginsR_err rfl he] at hb
 have HB : Hid _ := hb
 have ht : (beginsE log.data.toList ix.data.toList != 0) = true := by rw [bne_iff_ne]; exact he
 clear hb he
 generalize beginsE log.data.toList ix.data.toList = er at *
 go_enter Tryz.func116,Tryz.ntmps116
 go_wp2_with fail
 refine Calls.mono HB.out ?_
 rintro e w1 ⟨rfl,hb1⟩
 go_wp2
 go_ret3
 exact ⟨by rw [HL.out]; rfl,hb1.alloc hb1.size _⟩
theorem keepL {n m : Nat} {w wx w' : World} {a b c : Option Value} (h : (wx.cell? ⟨n,0,none⟩ = a /\ wx.cell? ⟨n,1,none⟩ = b /\ wx.cell? ⟨n,2,none⟩ = c) /\ Below m w wx /\ m <= wx.heap.size) (hn : n < m) (hb : Below wx.heap.size wx w') :
  (w'.cell? ⟨n,0,none⟩ = a /\ w'.cell? ⟨n,1,none⟩ = b /\ w'.cell? ⟨n,2,none⟩ = c) /\ Below m w w' /\ m <= w'.heap.size := by
 obtain ⟨⟨h0,h1,h2⟩,h3,h4⟩ := h
 have h5 : n < wx.heap.size := by omega
 exact ⟨⟨(hb.cell (p := ⟨n,0,none⟩) h5).trans h0,(hb.cell (p := ⟨n,1,none⟩) h5).trans h1,(hb.cell (p := ⟨n,2,none⟩) h5).trans h2⟩,h3.trans (hb.mono h4),Nat.le_trans h4 hb.size⟩
theorem refLook_ok (log ix key : ByteArray) (w : World) (hlog : log.size <= 140737488351232) (hix : ix.size <= 140737488351232) (hkey : key.size <= 140737488351232) (he : beginsE log.data.toList ix.data.toList = 0) :
  Calls Tryz.prog 116 #[.string log,.string ix,.string key] w fun e w' => e = .returned (ansV (lookS log.data.toList ix.data.toList key.data.toList)) /\ Below w.heap.size w w' := by
 have hlen : ix.data.toList.length = ix.size := by simp
 obtain ⟨g1,g2,g3⟩ := begins_zero he
 obtain ⟨⟨v0,v1⟩,v2,v3⟩ := head_well g3
 rw [hlen] at g1
 have hb := begins_any log ix w hlog hix
 rw [beginsR_ok he] at hb
 have HB : Hid _ := hb
 have hfar : ixFar ix.data.toList < 65536 := by
  have := highL_lt ((ix.data.toList.drop 6).take 2)
  have h4 := pow256_le (show ((ix.data.toList.drop 6).take 2).length <= 2 by simp; omega)
  unfold ixFar; omega
 have hnn : ixN ix.data.toList < 65536 := by
  have := highL_lt ((ix.data.toList.drop 4).take 2)
  have h4 := pow256_le (show ((ix.data.toList.drop 4).take 2).length <= 2 by simp; omega)
  unfold ixN; omega
 have hnum := refnumber_any (hdSeed log.data.toList) (hdBits log.data.toList) key
 obtain ⟨r0,r1⟩ := numberI_range (hdSeed log.data.toList) (hdBits log.data.toList) key.data.toList (by omega) v3
 have HL : Hid (lookS log.data.toList ix.data.toList key.data.toList = lookGo log.data.toList ix.data.toList key.data.toList (numberI (hdSeed log.data.toList) (hdBits log.data.toList) key.data.toList).toNat (ixN ix.data.toList) (hdBlk log.data.toList) (ixFar ix.data.toList + 1) 0) := by
  show _ = _
  rw [lookS,if_pos he]
 obtain ⟨W,hW⟩ := Int.eq_ofNat_of_zero_le r0
 rw [hW] at hnum r0 r1 HL
 rw [Int.toNat_natCast] at HL
 have HNUM : Hid _ := hnum
 have HG : Hid (ix.size = 20 + 10 * ixN ix.data.toList + 4) := g1
 clear hb he g3 hnum hW g1 hlen
 generalize hdBlk log.data.toList = B at *
 generalize hdSeed log.data.toList = sd at *
 generalize hdBits log.data.toList = bt at *
 generalize ixFar ix.data.toList = far at *
 generalize ixN ix.data.toList = n at *
 go_enter Tryz.func116,Tryz.ntmps116
 go_wp2_with fail
 refine Calls.mono HB.out ?_
 rintro e w1 ⟨rfl,hb1⟩
 go_wp2_with fail
 refine (HNUM.out _ (by omega) (by omega) (by omega) (by omega) (by omega)).mono ?_
 rintro e w2 ⟨rfl,hb2⟩
 have hz1 : w1.heap.size < w2.heap.size := by have := hb2.size; simp at this; omega
 have d0 : w2.cell? ⟨w1.heap.size,0,none⟩ = some (.int .i64 B) := by rw [hb2.cell (p := ⟨w1.heap.size,0,none⟩) (by simp)]; simp
 have d1 : w2.cell? ⟨w1.heap.size,1,none⟩ = some (.int .i64 sd) := by rw [hb2.cell (p := ⟨w1.heap.size,1,none⟩) (by simp)]; simp
 have d2 : w2.cell? ⟨w1.heap.size,2,none⟩ = some (.int .i64 bt) := by rw [hb2.cell (p := ⟨w1.heap.size,2,none⟩) (by simp)]; simp
 have hb02 : Below w.heap.size w w2 := hb1.trans ((((Below.refl _ _).alloc (Nat.le_refl _) _).trans (hb2.mono (by simp))).mono hb1.size)
 go_wp2
 go_loopw [14] (fun i wr => ∃ (k : Nat),k <= far + 1 /\ i = .int .i64 k /\ ((wr.cell? ⟨w1.heap.size,0,none⟩ = some (.int .i64 B) /\ wr.cell? ⟨w1.heap.size,1,none⟩ = some (.int .i64 sd) /\ wr.cell? ⟨w1.heap.size,2,none⟩ = some (.int .i64 bt)) /\ Below w.heap.size w wr /\ w1.heap.size < wr.heap.size) /\ Hid (lookS log.data.toList ix.data.toList key.data.toList = lookGo log.data.toList ix.data.toList key.data.toList W n B (far + 1 - k) k)) (fun i _ => far + 1 - (intOf i).toNat)
 case atStart => exact ⟨0,by omega,rfl,⟨⟨d0,d1,d2⟩,hb02,hz1⟩,HL⟩
 case round =>
  obtain ⟨k,hk,rfl,hS,HK⟩ := hrel
  clear d0 d1 d2
  by_cases hlt : k < far + 1
  ·clear hz1 hb02 hb1 hb2 HL HNUM HB v0 v1 v2 v3 hk
   have hq0 : ((W : Int) + (k : Int)) % (n : Int) = (((W + k) % n : Nat) : Int) := by simp
   have hqn : (W + k) % n < n := Nat.mod_lt _ (by omega)
   obtain ⟨q,hq⟩ : ∃ q,q = (W + k) % n := ⟨_,rfl⟩
   rw [<- hq] at hq0 hqn
   have HQ : Hid (q = (W + k) % n) := hq
   clear hq
   have hx := cut_run ix (20 + 10 * q) 10 (by rw [HG.out]; omega) (20 + 10 * (q : Int)) (20 + 10 * (q : Int) + 10) (by omega) (by omega)
   obtain ⟨s,hs⟩ : ∃ s,s = S ((ix.data.toList.drop (20 + 10 * q)).take 10) := ⟨_,rfl⟩
   rw [<- hs] at hx
   have hsz : s.size = 10 := by
    rw [hs,S_size]
    have := HG.out
    simp; omega
   have HSL : Hid (s.data.toList = slotL ix.data.toList ((W + k) % n)) := by
    show _ = _
    rw [hs,S_data,slotL,HQ.out]
   have HSTEP : Hid (slotStep log.data.toList key.data.toList W B k (slotL ix.data.toList ((W + k) % n)) = slotStep log.data.toList key.data.toList W B k s.data.toList) := by
    show _ = _
    rw [HSL.out]
   have hkk : far + 1 - k = (far - k) + 1 := by omega
   have hk' : (k : Int) <= (far : Int) := by omega
   clear hs HQ HG HSL
   have z0 : s.data.toList.getD 0 0 = s[0] := by
    rw [List.getD,List.getElem?_eq_getElem (by simp; omega)]; rfl
   have z9 : s.data.toList.getD 9 0 = s[9] := by
    rw [List.getD,List.getElem?_eq_getElem (by simp; omega)]; rfl
   have HZ : Hid (s.data.toList.getD 0 0 = s[0] /\ s.data.toList.getD 9 0 = s[9]) := ⟨z0,z9⟩
   clear z0 z9
   by_cases e0 : s[0].toNat = 0
   ·have t0 : ((s[0].toNat : Int) == 0) = true := by rw [beq_iff_eq]; omega
    have HR : Hid (lookS log.data.toList ix.data.toList key.data.toList = ⟨[],k + 1,2⟩) := by
     show _ = _
     rw [HK.out,hkk]
     exact lookGo_some (by rw [HSTEP.out,slotStep,HZ.out.1,if_pos e0])
    obtain ⟨_,hB,_⟩ := hS
    clear HK HSTEP HZ e0 hkk
    go_wp2
    go_ret3
    exact ⟨by rw [HR.out]; rfl,hB⟩
   ·have t0 : ((s[0].toNat : Int) == 0) = false := by rw [beq_eq_false_iff_ne]; omega
    by_cases e1 : s[0].toNat = 1
    ·have t1 : ((s[0].toNat : Int) != 1) = false := by rw [bne_eq_false_iff_eq]; omega
     have c15 := cut_run s 1 4 (by omega) 1 5 rfl rfl
     have c59 := cut_run s 5 4 (by omega) 5 9 rfl rfl
     have hw1 : highL ((s.data.toList.drop 1).take 4) < 4294967296 := highL4 _ (by simp; omega)
     have hw5 : highL ((s.data.toList.drop 5).take 4) < 4294967296 := highL4 _ (by simp; omega)
     have hl15 : ((s.data.toList.drop 1).take 4).length = 4 := by simp; omega
     have hl59 : ((s.data.toList.drop 5).take 4).length = 4 := by simp; omega
     have HST : Hid (slotStep log.data.toList key.data.toList W B k s.data.toList = if highL ((s.data.toList.drop 1).take 4) ≠ W then none else entStep key.data.toList k (blockP log.data.toList (highL ((s.data.toList.drop 5).take 4)) B) s[9].toNat) := by
      show _ = _
      rw [slotStep,HZ.out.1,HZ.out.2,if_neg e0]
      by_cases hh : highL ((s.data.toList.drop 1).take 4) ≠ W
      ·rw [if_pos (.inr hh),if_pos hh]
      ·rw [if_neg (by rintro (h | h); exact h e1; exact hh h),if_neg hh]
     generalize (s.data.toList.drop 1).take 4 = l15 at *
     generalize (s.data.toList.drop 5).take 4 = l59 at *
     clear HZ e0 e1
     have z15 : (S l15).size = 4 := by rw [S_size,hl15]
     have z59 : (S l59).size = 4 := by rw [S_size,hl59]
     clear hl15 hl59
     have HS : Hid _ := hS
     obtain ⟨⟨d0,d1,d2⟩,hB,hzz⟩ := hS
     go_wp2_with fail
     refine (high_any _ _ (by omega)).mono ?_
     rintro e w3 ⟨rfl,rfl⟩
     rw [S_data]
     by_cases e2 : highL l15 = W
     ·have t2 : ((highL l15 : Int) != (W : Int)) = false := by rw [bne_eq_false_iff_eq]; omega
      have HST' : Hid (slotStep log.data.toList key.data.toList W B k (slotL ix.data.toList ((W + k) % n)) = entStep key.data.toList k (blockP log.data.toList (highL l59) B) s[9].toNat) := by
       show _ = _
       rw [HSTEP.out,HST.out,if_neg (by intro h; exact h e2)]
      clear HST HSTEP e2
      generalize highL l15 = x15 at *
      go_wp2_with fail
      go_region_held3 (fun w' => (w'.cell? ⟨w1.heap.size,0,none⟩ = some (.int .i64 (B : Int)) /\ w'.cell? ⟨w1.heap.size,1,none⟩ = some (.int .i64 (sd : Int)) /\ w'.cell? ⟨w1.heap.size,2,none⟩ = some (.int .i64 (bt : Int))) /\ Below w3.heap.size w3 w' /\ w3.heap.size <= w'.heap.size) (first | (exact ⟨⟨d0,d1,d2⟩,(Below.refl _ _).drew,Nat.le_refl _⟩) | (assumption) | (exact keepL (by assumption) hzz (by assumption))) (first | (go_at_call 169; refine (high_any _ _ (by omega)).mono ?_; rintro e w' ⟨rfl,rfl⟩; rw [S_data]) | (go_at_call 170; refine (refblock_any log (highL l59) B sd bt _ hlog (by omega)).mono ?_; rintro e w' ⟨v,nn,rfl,hBI,hb4⟩))
      have hS4 := keepL (w := w3) (wx := w3.drew) ⟨⟨d0,d1,d2⟩,(Below.refl _ _).drew,Nat.le_refl _⟩ hzz hb4
      have HS4 : Hid ((_ /\ _ /\ _) /\ Below w.heap.size w _ /\ w1.heap.size < _) := ⟨hS4.1,hB.trans (hS4.2.1.mono hB.size),Nat.lt_of_lt_of_le hzz hS4.2.2⟩
      have hB4 := HS4.out.2.1
      clear hS4 d0 d1 d2 hb4 HS c15 c59 hx
      have hx9 := w64b s[9]
      have hw9 := s[9].toNat_lt
      have hbk : ∀ es k,blockP log.data.toList (highL l59) B = some (es,k) -> 7 <= k /\ k < 65543 /\ 1 <= es.length /\ es.length <= 255 := fun es k h => ⟨(blockP_some h).1,(blockP_some h).2.1,(blockP_some h).2.2.1,(blockP_some h).2.2.2.1⟩
      generalize blockP log.data.toList (highL l59) B = r at *
      clear hw5
      rcases r with _ | ⟨es,kk⟩
      ·clear hbk
       obtain ⟨rfl,rfl⟩ := hBI
       have HR : Hid (lookS log.data.toList ix.data.toList key.data.toList = ⟨[],0,3⟩) := by
        show _ = _
        rw [HK.out,hkk]
        exact lookGo_some (by rw [HST'.out]; rfl)
       clear HK HST' hkk
       go_wp2
       go_ret3
       exact ⟨by rw [HR.out]; rfl,hB4⟩
      ·obtain ⟨k1,k2,k3,k4⟩ := hbk es kk rfl
       clear hbk
       obtain ⟨rfl,hown⟩ := hBI
       obtain ⟨g,cap,rfl,hg0,hg1,hgc⟩ := own_cells3 hown (by omega)
       clear hown
       have t3 : ((kk : Int) == 0) = false := by rw [beq_eq_false_iff_ne]; omega
       by_cases e4 : s[9].toNat < es.length
       ·have hgE : es[s[9].toNat]? = some es[s[9].toNat] := List.getElem?_eq_getElem e4
        have hce := cellsE_get e4
        have y0 := (hgc (s[9].toNat * 3) (by omega)).trans hce.1
        have y1 := (hgc (s[9].toNat * 3 + 1) (by omega)).trans hce.2.1
        have y2 := (hgc (s[9].toNat * 3 + 2) (by omega)).trans hce.2.2
        have HST2 : Hid (slotStep log.data.toList key.data.toList W B k (slotL ix.data.toList ((W + k) % n)) = if es[s[9].toNat].put = false then some ⟨[],0,3⟩ else if es[s[9].toNat].key = key.data.toList then some ⟨es[s[9].toNat].val,k + 1,0⟩ else none) := by
         show _ = _
         rw [HST'.out]
         simp only [entStep,hgE]
        clear hce hgc HST' hgE
        generalize es[s[9].toNat] = en at *
        obtain ⟨put,ky,vl⟩ := en
        dsimp only at *
        cases put
        ·have HR : Hid (lookS log.data.toList ix.data.toList key.data.toList = ⟨[],0,3⟩) := by
          show _ = _
          rw [HK.out,hkk]
          exact lookGo_some (by rw [HST2.out,if_pos rfl])
         clear HK HST2 hkk
         go_wp2
         go_ret3
         exact ⟨by rw [HR.out]; rfl,hB4⟩
        ·by_cases e5 : ky = key.data.toList
         ·have t5 : ((S ky).toList == key.toList) = true := by rw [ByteArray.toList_eq,ByteArray.toList_eq,S_data,e5]; simp
          have HR : Hid (lookS log.data.toList ix.data.toList key.data.toList = ⟨vl,k + 1,0⟩) := by
           show _ = _
           rw [HK.out,hkk]
           exact lookGo_some (by rw [HST2.out,if_neg (by decide),if_pos e5])
          clear HK HST2 hkk e5 r0 r1 hnn g2 hq0 hqn hlog hix hkey hB
          go_wp2
          go_ret3
          exact ⟨by rw [HR.out]; rfl,hB4⟩
         ·have t5 : ((S ky).toList == key.toList) = false := by rw [ByteArray.toList_eq,ByteArray.toList_eq,S_data,beq_eq_false_iff_ne]; exact e5
          have HR : Hid (lookS log.data.toList ix.data.toList key.data.toList = lookGo log.data.toList ix.data.toList key.data.toList W n B (far + 1 - (k + 1)) (k + 1)) := by
           show _ = _
           rw [HK.out,hkk,lookGo_none (by rw [HST2.out,if_neg (by decide),if_neg e5]),show far + 1 - (k + 1) = far - k by omega]
          clear HK HST2 hkk e5 r0 r1 hnn g2 hq0 hqn hlog hix hkey hB
          go_wp2
          go_roundw
          case rel => exact ⟨k + 1,by omega,by go_num,HS4.out,HR⟩
          case measure => simp [intOf]; omega
       ·have HR : Hid (lookS log.data.toList ix.data.toList key.data.toList = ⟨[],0,3⟩) := by
         show _ = _
         rw [HK.out,hkk]
         exact lookGo_some (by rw [HST'.out]; simp only [entStep,List.getElem?_eq_none (Nat.not_lt.1 e4)])
        clear HK HST' hkk hgc
        go_wp2
        go_ret3
        exact ⟨by rw [HR.out]; rfl,hB4⟩
     ·have t2 : ((highL l15 : Int) != (W : Int)) = true := by rw [bne_iff_ne]; omega
      have HR : Hid (lookS log.data.toList ix.data.toList key.data.toList = lookGo log.data.toList ix.data.toList key.data.toList W n B (far + 1 - (k + 1)) (k + 1)) := by
       show _ = _
       rw [HK.out,hkk,lookGo_none (by rw [HSTEP.out,HST.out,if_pos e2]),show far + 1 - (k + 1) = far - k by omega]
      clear HK HSTEP HST e2 hkk d0 d1 d2
      go_wp2
      go_roundw
      case rel => exact ⟨k + 1,by omega,by go_num,HS.out,HR⟩
      case measure => simp [intOf]; omega
    ·have t1 : ((s[0].toNat : Int) != 1) = true := by rw [bne_iff_ne]; omega
     have HR : Hid (lookS log.data.toList ix.data.toList key.data.toList = lookGo log.data.toList ix.data.toList key.data.toList W n B (far + 1 - (k + 1)) (k + 1)) := by
      show _ = _
      rw [HK.out,hkk,lookGo_none (by rw [HSTEP.out,slotStep,HZ.out.1,if_neg e0,if_pos (.inl e1)]),show far + 1 - (k + 1) = far - k by omega]
     have HS : Hid _ := hS
     clear HK HSTEP HZ e0 e1 hkk hS
     go_wp2
     go_roundw
     case rel => exact ⟨k + 1,by omega,by go_num,HS.out,HR⟩
     case measure => simp [intOf]; omega
  ·obtain rfl : k = far + 1 := by omega
   have HR : Hid (lookS log.data.toList ix.data.toList key.data.toList = ⟨[],far + 1,2⟩) := by
    show _ = _
    rw [HK.out,Nat.sub_self]; rfl
   obtain ⟨_,hB,_⟩ := hS
   clear HK HL hlt hk HG HNUM HB v0 v1 v2 v3 r0 r1 hnn g2 hz1 hb02 hb1 hb2
   go_wp2
   go_ret3
   exact ⟨by rw [HR.out]; rfl,hB⟩
theorem isConfig_any (blk seed bits : Int) (w : World) :
  Calls Tryz.prog 68 #[.agg #[.int .i64 blk,.int .i64 seed,.int .i64 bits]] w fun e w' => e = .returned (.bool (wellB blk seed bits)) /\ Below w.heap.size w w' := by
 rcases (show blk < 1 \/ (1 <= blk /\ 400 < blk) \/ ((1 <= blk /\ blk <= 400) /\ seedB seed = false) \/ ((1 <= blk /\ blk <= 400) /\ seedB seed = true) from by cases seedB seed <;> simp <;> omega) with h1 | ⟨h1,h2⟩ | ⟨⟨h1,h2⟩,h3⟩ | ⟨⟨h1,h2⟩,h3⟩
 all_goals
  go_enter Tryz.func68,Tryz.ntmps68
  go_wp2_with (first | (go_at_call 126; refine (isSeed_any _ _).mono ?_; rintro e w' ⟨rfl,rfl⟩) | (go_at_call 127; refine (isBits_any _ _).mono ?_; rintro e w' ⟨rfl,rfl⟩))
  go_ret
  refine ⟨ret_bool ?_,(Below.refl _ _).alloc (Nat.le_refl _) _⟩
 ·rw [Bool.eq_iff_iff]; unfold wellB; simp; omega
 ·rw [Bool.eq_iff_iff]; unfold wellB; simp; omega
 ·rw [Bool.eq_iff_iff]; unfold wellB; simp [seedB] at h3 ⊢; omega
 ·rw [Bool.eq_iff_iff]; unfold wellB bitsB; simp [seedB] at h3 ⊢; omega
theorem readHead_no (s : ByteArray) (w : World) (hs : s.size <= 140737488351232) (hH : HalvesAt w) (h : s.size < 14 \/ (14 <= s.size /\ (s.data.toList.take 2 == [76,71]) = false) \/ (14 <= s.size /\ (s.data.toList.take 2 == [76,71]) = true /\ sealedB (s.data.toList.take 14) = false)) :
  Calls Tryz.prog 87 #[.string s] w fun e w' => e = .returned (.tuple #[.agg #[.int .i64 0,.int .i64 0,.int .i64 0],.bool false]) /\ Below w.heap.size w w' := by
 have E2 : Hid ((s.extract 0 2).toList = s.data.toList.take 2) := by show _ = _; rw [ByteArray.toList_eq,cut_list,List.drop_zero]
 have E14 : Hid ((s.extract 0 14).data.toList = s.data.toList.take 14) := by show _ = _; rw [cut_list,List.drop_zero]
 have HH : Hid (HalvesAt w) := hH
 clear hH
 rcases h with h1 | ⟨h1,h2⟩ | ⟨h1,h2,h3⟩
 ·go_enter Tryz.func87,Tryz.ntmps87
  go_wp2
  exact bodyPost_ret (v := .tuple #[.agg #[.int .i64 0,.int .i64 0,.int .i64 0],.bool false]) (by simp [results,Tryz.results87,go_sem]) rfl ⟨rfl,(Below.refl _ _).alloc (Nat.le_refl _) _⟩
 ·have t1 : ((s.extract 0 2).toList == [76,71]) = false := by rw [E2.out]; exact h2
  have t2 : ((s.extract 0 2).toList != [76,71]) = true := by rw [bne,t1]; rfl
  clear h2
  go_enter Tryz.func87,Tryz.ntmps87
  go_wp2
  exact bodyPost_ret (v := .tuple #[.agg #[.int .i64 0,.int .i64 0,.int .i64 0],.bool false]) (by simp [results,Tryz.results87,go_sem]) rfl ⟨rfl,(Below.refl _ _).alloc (Nat.le_refl _) _⟩
 ·have t1 : ((s.extract 0 2).toList == [76,71]) = true := by rw [E2.out]; exact h2
  have t2 : ((s.extract 0 2).toList != [76,71]) = false := by rw [bne,t1]; rfl
  have H3 : Hid (sealedB (s.data.toList.take 14) = false) := h3
  clear h2 h3
  go_enter Tryz.func87,Tryz.ntmps87
  go_wp2_with fail
  refine (holds_any _ _ ?_ ?_).mono ?_
  ·simp; omega
  ·exact HH.out.below ((Below.refl w.heap.size w).alloc (Nat.le_refl _) _) HH.out.1
  rintro e w1 ⟨rfl,hb1⟩
  rw [E14.out,H3.out]
  have hz1 : w.heap.size < w1.heap.size := by have := hb1.size; simp at this; omega
  have r0 : w1.cell? ⟨w.heap.size,0,none⟩ = some (.int .i64 0) := by rw [hb1.cell (p := ⟨w.heap.size,0,none⟩) (by simp)]; simp
  have r1 : w1.cell? ⟨w.heap.size,1,none⟩ = some (.int .i64 0) := by rw [hb1.cell (p := ⟨w.heap.size,1,none⟩) (by simp)]; simp
  have r2 : w1.cell? ⟨w.heap.size,2,none⟩ = some (.int .i64 0) := by rw [hb1.cell (p := ⟨w.heap.size,2,none⟩) (by simp)]; simp
  have f0 : w1.frozen? ⟨w.heap.size,0,none⟩ = false := by rw [hb1.frozen (p := ⟨w.heap.size,0,none⟩) (by simp)]; simp
  have f1 : w1.frozen? ⟨w.heap.size,1,none⟩ = false := by rw [hb1.frozen (p := ⟨w.heap.size,1,none⟩) (by simp)]; simp
  have f2 : w1.frozen? ⟨w.heap.size,2,none⟩ = false := by rw [hb1.frozen (p := ⟨w.heap.size,2,none⟩) (by simp)]; simp
  have hB : Below w.heap.size w w1 := ((Below.refl _ _).alloc (Nat.le_refl _) _).trans (hb1.mono (by simp))
  go_wp2
  exact bodyPost_ret (v := .tuple #[.agg #[.int .i64 0,.int .i64 0,.int .i64 0],.bool false]) (by simp [results,Tryz.results87,go_sem,r0,r1,r2]) rfl ⟨rfl,((hB.setCell (Nat.le_refl _) _).setCell (Nat.le_refl _) _).setCell (Nat.le_refl _) _⟩
theorem readHead_go (s : ByteArray) (w : World) (hs : s.size <= 140737488351232) (hH : HalvesAt w) (h1 : 14 <= s.size) (h2 : (s.data.toList.take 2 == [76,71]) = true) (h3 : sealedB (s.data.toList.take 14) = true) (b : Bool) (hwell : wellB (hdBlk s.data.toList) (hdSeed s.data.toList) (hdBits s.data.toList) = b) :
  Calls Tryz.prog 87 #[.string s] w fun e w' => e = .returned (.tuple #[if b then .agg #[.int .i64 (hdBlk s.data.toList),.int .i64 (hdSeed s.data.toList),.int .i64 (hdBits s.data.toList)] else .agg #[.int .i64 0,.int .i64 0,.int .i64 0],.bool b]) /\ Below w.heap.size w w' := by
 have E2 : Hid ((s.extract 0 2).toList = s.data.toList.take 2) := by show _ = _; rw [ByteArray.toList_eq,cut_list,List.drop_zero]
 have E14 : Hid ((s.extract 0 14).data.toList = s.data.toList.take 14) := by show _ = _; rw [cut_list,List.drop_zero]
 have HH : Hid (HalvesAt w) := hH
 have t1 : ((s.extract 0 2).toList == [76,71]) = true := by rw [E2.out]; exact h2
 have t2 : ((s.extract 0 2).toList != [76,71]) = false := by rw [bne,t1]; rfl
 have H3 : Hid (sealedB (s.data.toList.take 14) = true) := h3
 have HW : Hid (wellB (hdBlk s.data.toList) (hdSeed s.data.toList) (hdBits s.data.toList) = b) := hwell
 clear hH h2 h3 hwell
 go_enter Tryz.func87,Tryz.ntmps87
 go_wp2_with fail
 refine (holds_any _ _ ?_ ?_).mono ?_
 ·simp; omega
 ·exact HH.out.below ((Below.refl w.heap.size w).alloc (Nat.le_refl _) _) HH.out.1
 rintro e w1 ⟨rfl,hb1⟩
 rw [E14.out,H3.out]
 have hz1 : w.heap.size < w1.heap.size := by have := hb1.size; simp at this; omega
 have HB1 : Hid (Below w.heap.size w w1) := ((Below.refl _ _).alloc (Nat.le_refl _) _).trans (hb1.mono (by simp))
 have HR : Hid ((w1.cell? ⟨w.heap.size,0,none⟩ = some (.int .i64 0) /\ w1.cell? ⟨w.heap.size,1,none⟩ = some (.int .i64 0) /\ w1.cell? ⟨w.heap.size,2,none⟩ = some (.int .i64 0)) /\ ∀ i,w1.frozen? ⟨w.heap.size,i,none⟩ = false) := by
  refine ⟨⟨?_,?_,?_⟩,fun i => ?_⟩
  ·rw [hb1.cell (p := ⟨w.heap.size,0,none⟩) (by simp)]; simp
  ·rw [hb1.cell (p := ⟨w.heap.size,1,none⟩) (by simp)]; simp
  ·rw [hb1.cell (p := ⟨w.heap.size,2,none⟩) (by simp)]; simp
  ·rw [hb1.frozen (p := ⟨w.heap.size,i,none⟩) (by simp)]; simp
 have E1 : Hid ((s.extract 2 4).data.toList = (s.data.toList.drop 2).take 2) := cut_list s 2 4
 have E4 : Hid ((s.extract 4 8).data.toList = (s.data.toList.drop 4).take 4) := cut_list s 4 8
 have E8 : Hid ((s.extract 8 10).data.toList = (s.data.toList.drop 8).take 2) := cut_list s 8 10
 have z1 : (s.extract 2 4).size = 2 := by simp; omega
 have z2 : (s.extract 4 8).size = 4 := by simp; omega
 have z3 : (s.extract 8 10).size = 2 := by simp; omega
 have i1 : (4 : Int) <= (s.size : Int) := by omega
 have i2 : (8 : Int) <= (s.size : Int) := by omega
 have i3 : (10 : Int) <= (s.size : Int) := by omega
 clear hb1 t1 t2 E2 E14 H3 HH
 go_wp2_with fail
 go_cut [4] (fun c wx => c = .pointer (some ⟨w1.heap.size,0,none⟩) /\ wx.cell? ⟨w1.heap.size,0,none⟩ = some (.int .i64 (hdBlk s.data.toList)) /\ wx.cell? ⟨w1.heap.size,1,none⟩ = some (.int .i64 (hdSeed s.data.toList)) /\ wx.cell? ⟨w1.heap.size,2,none⟩ = some (.int .i64 (hdBits s.data.toList)) /\ Below w1.heap.size w1 wx /\ w1.heap.size < wx.heap.size)
 case first =>
  go_region_held3 (fun w' => w1.heap.size <= w'.heap.size) (first | (simp) | (simp; omega)) (first | (go_at_call_of 145 (Value.string (s.extract 2 4)); refine (lowRead_any _ _ (by omega)).mono ?_; rintro e w' ⟨rfl,rfl⟩) | (go_at_call_of 145 (Value.string (s.extract 4 8)); refine (lowRead_any _ _ (by omega)).mono ?_; rintro e w' ⟨rfl,rfl⟩) | (go_at_call_of 145 (Value.string (s.extract 8 10)); refine (lowRead_any _ _ (by omega)).mono ?_; rintro e w' ⟨rfl,rfl⟩))
  all_goals
   go_wp2_with fail
   go_meet
   refine ⟨rfl,?_,?_,?_,?_,?_⟩
   ·rw [hdBlk,<- E1.out]; simp
   ·rw [hdSeed,<- E4.out]; simp
   ·rw [hdBits,<- E8.out]; simp
   ·first | exact ((Below.refl _ _).alloc (Nat.le_refl _) _).drew | exact (((Below.refl _ _).alloc (Nat.le_refl _) _).setCell (by simp) _).drew
   ·simp
 case rest =>
  obtain ⟨rfl,c0,c1,c2,hb2,hz2⟩ := hcut
  clear z1 z2 z3 i1 i2 i3 E1 E4 E8
  go_wp2_with fail
  refine (isConfig_any _ _ _ _).mono ?_
  rintro e w2 ⟨rfl,hb3⟩
  rw [HW.out]
  have d0 := (hb3.cell (p := ⟨w1.heap.size,0,none⟩) hz2).trans c0
  have d1 := (hb3.cell (p := ⟨w1.heap.size,1,none⟩) hz2).trans c1
  have d2 := (hb3.cell (p := ⟨w1.heap.size,2,none⟩) hz2).trans c2
  obtain ⟨⟨r0,r1,r2⟩,rf⟩ := HR.out
  have hbx : Below w1.heap.size w1 w2 := hb2.trans (hb3.mono (Nat.le_of_lt hz2))
  replace r0 := (hbx.cell (p := ⟨w.heap.size,0,none⟩) hz1).trans r0
  replace r1 := (hbx.cell (p := ⟨w.heap.size,1,none⟩) hz1).trans r1
  replace r2 := (hbx.cell (p := ⟨w.heap.size,2,none⟩) hz1).trans r2
  have f0 : w2.frozen? ⟨w.heap.size,0,none⟩ = false := (hbx.frozen (p := ⟨w.heap.size,0,none⟩) hz1).trans (rf 0)
  have f1 : w2.frozen? ⟨w.heap.size,1,none⟩ = false := (hbx.frozen (p := ⟨w.heap.size,1,none⟩) hz1).trans (rf 1)
  have f2 : w2.frozen? ⟨w.heap.size,2,none⟩ = false := (hbx.frozen (p := ⟨w.heap.size,2,none⟩) hz1).trans (rf 2)
  have HW2 : Hid (Below w.heap.size w w2) := HB1.out.trans (hbx.mono (Nat.le_of_lt hz1))
  clear rf c0 c1 c2 HR hb3 hb2 hbx HW
  cases b
  ·go_wp2
   exact bodyPost_ret (v := .tuple #[.agg #[.int .i64 0,.int .i64 0,.int .i64 0],.bool false]) (by simp [results,Tryz.results87,go_sem,r0,r1,r2]) rfl ⟨rfl,((HW2.out.setCell (Nat.le_refl _) _).setCell (Nat.le_refl _) _).setCell (Nat.le_refl _) _⟩
  ·go_wp2
   exact bodyPost_ret (v := .tuple #[.agg #[.int .i64 (hdBlk s.data.toList),.int .i64 (hdSeed s.data.toList),.int .i64 (hdBits s.data.toList)],.bool true]) (by simp [results,Tryz.results87,go_sem,r0,r1,r2]) rfl ⟨rfl,((HW2.out.setCell (Nat.le_refl _) _).setCell (Nat.le_refl _) _).setCell (Nat.le_refl _) _⟩
theorem headB_parts (l : List UInt8) : headB l = (decide (14 <= l.length) && (l.take 2 == [76,71]) && sealedB (l.take 14) && wellB (hdBlk l) (hdSeed l) (hdBits l)) := by
 unfold headB
 cases decide (14 <= l.length) <;> cases sealedB (l.take 14) <;> cases wellB (hdBlk l) (hdSeed l) (hdBits l) <;> cases (l.take 2 == [76,71]) <;> rfl
def headV (l : List UInt8) : Value := if headB l = true then .agg #[.int .i64 (hdBlk l),.int .i64 (hdSeed l),.int .i64 (hdBits l)] else .agg #[.int .i64 0,.int .i64 0,.int .i64 0]
theorem readHead_any (s : ByteArray) (w : World) (hs : s.size <= 140737488351232) (hH : HalvesAt w) :
  Calls Tryz.prog 87 #[.string s] w fun e w' => e = .returned (.tuple #[headV s.data.toList,.bool (headB s.data.toList)]) /\ Below w.heap.size w w' := by
 have hl : s.data.toList.length = s.size := by simp
 have hp := headB_parts s.data.toList
 rw [hl] at hp
 by_cases h1 : 14 <= s.size
 ·cases h2 : (s.data.toList.take 2 == [76,71])
  ·have hf : headB s.data.toList = false := by rw [hp,h2]; simp
   unfold headV
   rw [hf]
   exact readHead_no s w hs hH (.inr (.inl ⟨h1,h2⟩))
  ·cases h3 : sealedB (s.data.toList.take 14)
   ·have hf : headB s.data.toList = false := by rw [hp,h3]; simp
    unfold headV
    rw [hf]
    exact readHead_no s w hs hH (.inr (.inr ⟨h1,h2,h3⟩))
   ·have hf : headB s.data.toList = wellB (hdBlk s.data.toList) (hdSeed s.data.toList) (hdBits s.data.toList) := by rw [hp,h2,h3]; simp [h1]
    unfold headV
    rw [hf]
    exact readHead_go s w hs hH h1 h2 h3 _ rfl
 ·have hf : headB s.data.toList = false := by rw [hp]; simp; omega
  unfold headV
  rw [hf]
  exact readHead_no s w hs hH (.inl (by omega))
theorem isValue_any (s : ByteArray) (w : World) :
  Calls Tryz.prog 154 #[.string s] w fun e w' => e = .returned (.bool (decide (s.size <= 30))) /\ w' = w := by
 go_enter Tryz.func154,Tryz.ntmps154
 go_wp2
 go_ret
 refine ⟨ret_bool ?_,rfl⟩
 rw [Bool.eq_iff_iff]; simp; omega
def noEnt : Value := .agg #[.bool false,.string ⟨#[]⟩,.string ⟨#[]⟩]
def entR (l : List UInt8) : Value := match ent1 l with
 | none => .tuple #[noEnt,.string ⟨#[]⟩,.bool false]
 | some (e,n) => .tuple #[.agg #[.bool e.put,.string (S e.key),.string (S e.val)],.string (S (l.drop n)),.bool true]
theorem entR_none {l : List UInt8} (h : ent1 l = none) : entR l = .tuple #[.agg #[.bool false,.string ⟨#[]⟩,.string ⟨#[]⟩],.string ⟨#[]⟩,.bool false] := by
 unfold entR; rw [h]; rfl
theorem entR_some {l : List UInt8} {e : Ent} {n : Nat} (h : ent1 l = some (e,n)) : entR l = .tuple #[.agg #[.bool e.put,.string (S e.key),.string (S e.val)],.string (S (l.drop n)),.bool true] := by
 unfold entR; rw [h]
theorem ent1_zero {l : List UInt8} {n : Nat} (hn : l.length = n) (h : 3 <= l.length) : ent1 l = if n < 3 + l[1].toNat + l[2].toNat \/ l[1].toNat < 1 \/ 20 < l[1].toNat \/ 30 < l[2].toNat then none else if l[0] = 112 then some (⟨true,(l.drop 3).take l[1].toNat,(l.drop (3 + l[1].toNat)).take l[2].toNat⟩,3 + l[1].toNat + l[2].toNat) else if l[0] = 100 /\ l[2].toNat = 0 then some (⟨false,(l.drop 3).take l[1].toNat,[]⟩,3 + l[1].toNat) else none := by
 match l,h with
 | a :: b :: c :: r,_ =>
  show (if r.length < b.toNat + c.toNat \/ b.toNat < 1 \/ 20 < b.toNat \/ 30 < c.toNat then none else if a = 112 then some ((⟨true,r.take b.toNat,(r.drop b.toNat).take c.toNat⟩ : Ent),3 + b.toNat + c.toNat) else if a = 100 /\ c.toNat = 0 then some ((⟨false,r.take b.toNat,[]⟩ : Ent),3 + b.toNat) else none) = if n < 3 + b.toNat + c.toNat \/ b.toNat < 1 \/ 20 < b.toNat \/ 30 < c.toNat then none else if a = 112 then some ((⟨true,r.take b.toNat,((a :: b :: c :: r).drop (3 + b.toNat)).take c.toNat⟩ : Ent),3 + b.toNat + c.toNat) else if a = 100 /\ c.toNat = 0 then some ((⟨false,r.take b.toNat,[]⟩ : Ent),3 + b.toNat) else none
  have e : (a :: b :: c :: r).drop (3 + b.toNat) = r.drop b.toNat := by rw [<- List.drop_drop]; rfl
  rw [e]
  have hr : r.length + 3 = n := by simpa using hn
  by_cases hb : r.length < b.toNat + c.toNat \/ b.toNat < 1 \/ 20 < b.toNat \/ 30 < c.toNat
  ·rw [if_pos hb,if_pos (by omega)]
  ·rw [if_neg hb,if_neg (c := n < 3 + b.toNat + c.toNat \/ b.toNat < 1 \/ 20 < b.toNat \/ 30 < c.toNat) (by omega)]
theorem readEntry_early (s : ByteArray) (w : World) (hs : s.size <= 140737488351232) (h : s.size < 3 \/ ∃ h3 : 3 <= s.size,s[0] ≠ 112 /\ s[0] ≠ 100) :
  Calls Tryz.prog 205 #[.string s] w fun e w' => e = .returned (entR s.data.toList) /\ Below w.heap.size w w' := by
 have hl : s.data.toList.length = s.size := by simp
 rcases h with h1 | ⟨h3,h1,h2⟩
 ·have HR : Hid (entR s.data.toList = _) := entR_none (ent1_short (by omega))
  go_enter Tryz.func205,Tryz.ntmps205
  go_wp2
  exact bodyPost_ret (v := .tuple #[.agg #[.bool false,.string ⟨#[]⟩,.string ⟨#[]⟩],.string ⟨#[]⟩,.bool false]) (by simp [results,Tryz.results205,go_sem]) rfl ⟨by rw [HR.out],(Below.refl _ _).alloc (Nat.le_refl _) _⟩
 ·have HR : Hid (entR s.data.toList = _) := entR_none (by
   have e : ent1 (s.data.toList.drop 0) = none := by
    by_cases hb : s.data.toList.length < 0 + 3 + s.data.toList[1].toNat + s.data.toList[2].toNat \/ s.data.toList[1].toNat < 1 \/ 20 < s.data.toList[1].toNat \/ 30 < s.data.toList[2].toNat
    ·exact ent1_bad (by omega) hb
    ·exact ent1_no (by omega) hb h1 (.inl h2)
   rwa [List.drop_zero] at e)
  have t1 : ((s[0].toNat : Int) != 112) = true := by
   rw [bne_iff_ne]; intro h; apply h1; apply UInt8.toNat_inj.1; simp; omega
  have t2 : ((s[0].toNat : Int) != 100) = true := by
   rw [bne_iff_ne]; intro h; apply h2; apply UInt8.toNat_inj.1; simp; omega
  clear h1 h2
  go_enter Tryz.func205,Tryz.ntmps205
  go_wp2
  exact bodyPost_ret (v := .tuple #[.agg #[.bool false,.string ⟨#[]⟩,.string ⟨#[]⟩],.string ⟨#[]⟩,.bool false]) (by simp [results,Tryz.results205,go_sem]) rfl ⟨by rw [HR.out],(Below.refl _ _).alloc (Nat.le_refl _) _⟩
theorem readEntry_bad (s : ByteArray) (w : World) (hs : s.size <= 140737488351232) (h3 : 3 <= s.size) (pb : Bool) (hk : if pb then s[0] = 112 else (s[0] ≠ 112 /\ s[0] = 100)) (hbad : s.size < 3 + s[1].toNat + s[2].toNat \/ (3 + s[1].toNat + s[2].toNat <= s.size /\ pb = false /\ s[2].toNat ≠ 0)) :
  Calls Tryz.prog 205 #[.string s] w fun e w' => e = .returned (entR s.data.toList) /\ Below w.heap.size w w' := by
 have hl : s.data.toList.length = s.size := by simp
 have t1 : ((s[0].toNat : Int) != 112) = !pb := by
  cases pb
  ·have : s[0] = 100 := hk.2
   rw [this]; rfl
  ·have : s[0] = 112 := hk
   rw [this]; rfl
 have t2 : pb = false -> ((s[0].toNat : Int) != 100) = false := by
  intro hp; subst hp
  have : s[0] = 100 := hk.2
  rw [this]; rfl
 have t3 : ((s[0].toNat : Int) == 112) = pb := by
  cases pb
  ·have : s[0] = 100 := hk.2
   rw [this]; rfl
  ·have : s[0] = 112 := hk
   rw [this]; rfl
 have hw1 := w64b s[1]
 have hw2 := w64b s[2]
 have hb1 := s[1].toNat_lt
 have hb2 := s[2].toNat_lt
 have c0 := idx_run s 0 (by omega) 0 rfl
 have c1 := idx_run s 1 (by omega) 1 rfl
 have c2 := idx_run s 2 (by omega) 2 rfl
 have c3 := cut_from s 3 (by omega) 3 rfl
 have HE : Hid (ent1 s.data.toList = if s.size < 3 + s[1].toNat + s[2].toNat \/ s[1].toNat < 1 \/ 20 < s[1].toNat \/ 30 < s[2].toNat then none else if pb = true then some (⟨true,(s.data.toList.drop 3).take s[1].toNat,(s.data.toList.drop (3 + s[1].toNat)).take s[2].toNat⟩,3 + s[1].toNat + s[2].toNat) else if s[2].toNat = 0 then some (⟨false,(s.data.toList.drop 3).take s[1].toNat,[]⟩,3 + s[1].toNat) else none) := by
  have hz : ent1 s.data.toList = if s.size < 3 + s[1].toNat + s[2].toNat \/ s[1].toNat < 1 \/ 20 < s[1].toNat \/ 30 < s[2].toNat then none else if s[0] = 112 then some (⟨true,(s.data.toList.drop 3).take s[1].toNat,(s.data.toList.drop (3 + s[1].toNat)).take s[2].toNat⟩,3 + s[1].toNat + s[2].toNat) else if s[0] = 100 /\ s[2].toNat = 0 then some (⟨false,(s.data.toList.drop 3).take s[1].toNat,[]⟩,3 + s[1].toNat) else none := ent1_zero hl (by omega)
  show _ = _
  rw [hz]
  cases pb
  ·rw [if_neg (c := s[0] = 112) hk.1,if_neg (c := false = true) (by decide)]
   by_cases hv : s[2].toNat = 0
   ·rw [if_pos (c := s[0] = 100 /\ s[2].toNat = 0) ⟨hk.2,hv⟩,if_pos (c := s[2].toNat = 0) hv]
   ·rw [if_neg (c := s[0] = 100 /\ s[2].toNat = 0) (fun h => hv h.2),if_neg (c := s[2].toNat = 0) hv]
  ·rw [if_pos (c := s[0] = 112) hk,if_pos (c := true = true) rfl]
 clear hk
 go_enter Tryz.func205,Tryz.ntmps205
 obtain ⟨r,hr⟩ : ∃ r,r = S (s.data.toList.drop 3) := ⟨_,rfl⟩
 rw [<- hr] at c3
 have hrs : r.size = s.size - 3 := by rw [hr,S_size]; simp
 have HRL : Hid (r.data.toList = s.data.toList.drop 3) := by show _ = _; rw [hr,S_data]
 clear hr
 rcases hbad with g1 | ⟨g1,g2,g3⟩
 ·have HR : Hid (entR s.data.toList = _) := entR_none (by rw [HE.out,if_pos (.inl g1)])
  clear HE HRL
  cases pb
  all_goals
   go_wp2_with fail
   go_quiet (fail)
   go_wp2
   exact bodyPost_ret (v := .tuple #[.agg #[.bool false,.string ⟨#[]⟩,.string ⟨#[]⟩],.string ⟨#[]⟩,.bool false]) (by simp [results,Tryz.results205,go_sem]) rfl ⟨by rw [HR.out],(((below_drewN ((Below.refl _ _).alloc (Nat.le_refl _) _) _).setCell (Nat.le_refl _) _).setCell (Nat.le_refl _) _).setCell (Nat.le_refl _) _⟩
 ·subst g2
  have HR : Hid (entR s.data.toList = _) := entR_none (by
   rw [HE.out]
   by_cases hb : s.size < 3 + s[1].toNat + s[2].toNat \/ s[1].toNat < 1 \/ 20 < s[1].toNat \/ 30 < s[2].toNat
   ·rw [if_pos hb]
   ·rw [if_neg hb,if_neg (by decide),if_neg g3])
  have t4 : ((s[2].toNat : Int) != 0) = true := by rw [bne_iff_ne]; omega
  clear HE HRL g3
  go_wp2_with fail
  go_quiet (fail)
  go_wp2
  exact bodyPost_ret (v := .tuple #[.agg #[.bool false,.string ⟨#[]⟩,.string ⟨#[]⟩],.string ⟨#[]⟩,.bool false]) (by simp [results,Tryz.results205,go_sem]) rfl ⟨by rw [HR.out],(((below_drewN ((Below.refl _ _).alloc (Nat.le_refl _) _) _).setCell (Nat.le_refl _) _).setCell (Nat.le_refl _) _).setCell (Nat.le_refl _) _⟩
theorem isRight_any (pb : Bool) (ky vl : ByteArray) (w : World) :
  Calls Tryz.prog 99 #[.agg #[.bool pb,.string ky,.string vl]] w fun e w' => e = .returned (.bool (keyB ky && decide (vl.size <= 30))) /\ Below w.heap.size w w' := by
 cases h : keyB ky
 all_goals
  go_enter Tryz.func99,Tryz.ntmps99
  go_wp2_with (first | (go_at_call 153; refine (isKey_any _ _).mono ?_; rintro e w' ⟨rfl,rfl⟩; rw [h]) | (go_at_call 154; refine (isValue_any _ _).mono ?_; rintro e w' ⟨rfl,rfl⟩))
  go_ret
  refine ⟨ret_bool (by simp),(Below.refl _ _).alloc (Nat.le_refl _) _⟩
theorem far3 (w2 : World) {n m : Nat} (h : n ≠ m) (a b c : Value) (j : Nat) : (((w2.setCell ⟨n,0,none⟩ a).setCell ⟨n,1,none⟩ b).setCell ⟨n,2,none⟩ c).drew.cell? ⟨m,j,none⟩ = w2.cell? ⟨m,j,none⟩ := by
 show (((w2.setCell ⟨n,0,none⟩ a).setCell ⟨n,1,none⟩ b).setCell ⟨n,2,none⟩ c).cell? ⟨m,j,none⟩ = _
 rw [World.cell?_setCell_far _ _ _ _ h,World.cell?_setCell_far _ _ _ _ h,World.cell?_setCell_far _ _ _ _ h]
def Keep3 (w W : World) : Prop := (W.cell? ⟨w.heap.size,0,none⟩ = some (.bool false) /\ W.cell? ⟨w.heap.size,1,none⟩ = some (.string ⟨#[]⟩) /\ W.cell? ⟨w.heap.size,2,none⟩ = some (.string ⟨#[]⟩)) /\ (∀ i,W.frozen? ⟨w.heap.size,i,none⟩ = false) /\ Below w.heap.size w W /\ w.heap.size < W.heap.size
theorem keep3_new (w : World) (q : Nat) : Keep3 w ((w.alloc (.cells #[.bool false,.string ⟨#[]⟩,.string ⟨#[]⟩] 106)).drewN q) :=
 ⟨⟨by simp,by simp,by simp⟩,fun i => by simp,below_drewN ((Below.refl _ _).alloc (Nat.le_refl _) _) _,by simp⟩
theorem Keep3.below {w W W' : World} (h : Keep3 w W) (hb : Below W.heap.size W W') : Keep3 w W' := by
 obtain ⟨⟨h0,h1,h2⟩,hf,hB,hz⟩ := h
 exact ⟨⟨(hb.cell (p := ⟨w.heap.size,0,none⟩) hz).trans h0,(hb.cell (p := ⟨w.heap.size,1,none⟩) hz).trans h1,(hb.cell (p := ⟨w.heap.size,2,none⟩) hz).trans h2⟩,fun i => (hb.frozen (p := ⟨w.heap.size,i,none⟩) hz).trans (hf i),hB.trans (hb.mono (Nat.le_of_lt hz)),Nat.lt_of_lt_of_le hz hb.size⟩
theorem readEntry_good (s : ByteArray) (w : World) (hs : s.size <= 140737488351232) (h3 : 3 <= s.size) (pb : Bool) (hk : if pb then s[0] = 112 else (s[0] ≠ 112 /\ s[0] = 100)) (g1 : 3 + s[1].toNat + s[2].toNat <= s.size) (g2 : pb = true \/ s[2].toNat = 0) :
  Calls Tryz.prog 205 #[.string s] w fun e w' => e = .returned (entR s.data.toList) /\ Below w.heap.size w w' := by
 have hl : s.data.toList.length = s.size := by simp
 have t1 : ((s[0].toNat : Int) != 112) = !pb := by
  cases pb
  ·have : s[0] = 100 := hk.2
   rw [this]; rfl
  ·have : s[0] = 112 := hk
   rw [this]; rfl
 have t2 : pb = false -> ((s[0].toNat : Int) != 100) = false := by
  intro hp; subst hp
  have : s[0] = 100 := hk.2
  rw [this]; rfl
 have t3 : ((s[0].toNat : Int) == 112) = pb := by
  cases pb
  ·have : s[0] = 100 := hk.2
   rw [this]; rfl
  ·have : s[0] = 112 := hk
   rw [this]; rfl
 have hw1 := w64b s[1]
 have hw2 := w64b s[2]
 have hb1 := s[1].toNat_lt
 have hb2 := s[2].toNat_lt
 have c0 := idx_run s 0 (by omega) 0 rfl
 have c1 := idx_run s 1 (by omega) 1 rfl
 have c2 := idx_run s 2 (by omega) 2 rfl
 have c3 := cut_from s 3 (by omega) 3 rfl
 have HE : Hid (ent1 s.data.toList = if s.size < 3 + s[1].toNat + s[2].toNat \/ s[1].toNat < 1 \/ 20 < s[1].toNat \/ 30 < s[2].toNat then none else if pb = true then some (⟨true,(s.data.toList.drop 3).take s[1].toNat,(s.data.toList.drop (3 + s[1].toNat)).take s[2].toNat⟩,3 + s[1].toNat + s[2].toNat) else if s[2].toNat = 0 then some (⟨false,(s.data.toList.drop 3).take s[1].toNat,[]⟩,3 + s[1].toNat) else none) := by
  have hz : ent1 s.data.toList = if s.size < 3 + s[1].toNat + s[2].toNat \/ s[1].toNat < 1 \/ 20 < s[1].toNat \/ 30 < s[2].toNat then none else if s[0] = 112 then some (⟨true,(s.data.toList.drop 3).take s[1].toNat,(s.data.toList.drop (3 + s[1].toNat)).take s[2].toNat⟩,3 + s[1].toNat + s[2].toNat) else if s[0] = 100 /\ s[2].toNat = 0 then some (⟨false,(s.data.toList.drop 3).take s[1].toNat,[]⟩,3 + s[1].toNat) else none := ent1_zero hl (by omega)
  show _ = _
  rw [hz]
  cases pb
  ·rw [if_neg (c := s[0] = 112) hk.1,if_neg (c := false = true) (by decide)]
   by_cases hv : s[2].toNat = 0
   ·rw [if_pos (c := s[0] = 100 /\ s[2].toNat = 0) ⟨hk.2,hv⟩,if_pos (c := s[2].toNat = 0) hv]
   ·rw [if_neg (c := s[0] = 100 /\ s[2].toNat = 0) (fun h => hv h.2),if_neg (c := s[2].toNat = 0) hv]
  ·rw [if_pos (c := s[0] = 112) hk,if_pos (c := true = true) rfl]
 clear hk
 go_enter Tryz.func205,Tryz.ntmps205
 obtain ⟨r,hr⟩ : ∃ r,r = S (s.data.toList.drop 3) := ⟨_,rfl⟩
 rw [<- hr] at c3
 have hrs : r.size = s.size - 3 := by rw [hr,S_size]; simp
 have HRL : Hid (r.data.toList = s.data.toList.drop 3) := by show _ = _; rw [hr,S_data]
 clear hr
 have u1 := cut_upto r s[1].toNat (by omega) (s[1].toNat : Int) rfl
 have u2 := cut_run r s[1].toNat s[2].toNat (by omega) (s[1].toNat : Int) ((s[1].toNat : Int) + (s[2].toNat : Int)) rfl (by omega)
 have u3 := cut_from r (s[1].toNat + s[2].toNat) (by omega) ((s[1].toNat : Int) + (s[2].toNat : Int)) (by omega)
 rw [HRL.out] at u1 u2 u3
 obtain ⟨ky,hky⟩ : ∃ t,t = S ((s.data.toList.drop 3).take s[1].toNat) := ⟨_,rfl⟩
 obtain ⟨vl,hvl⟩ : ∃ t,t = S (((s.data.toList.drop 3).drop s[1].toNat).take s[2].toNat) := ⟨_,rfl⟩
 obtain ⟨rs,hrs2⟩ : ∃ t,t = S ((s.data.toList.drop 3).drop (s[1].toNat + s[2].toNat)) := ⟨_,rfl⟩
 rw [<- hky] at u1
 rw [<- hvl] at u2
 rw [<- hrs2] at u3
 have kz : ky.size = s[1].toNat := by rw [hky,S_size]; simp; omega
 have vz : vl.size = s[2].toNat := by rw [hvl,S_size]; simp; omega
 have HGO : Hid (entR s.data.toList = if (keyB ky && decide (vl.size <= 30)) = true then .tuple #[.agg #[.bool pb,.string ky,.string vl],.string rs,.bool true] else .tuple #[.agg #[.bool false,.string ⟨#[]⟩,.string ⟨#[]⟩],.string ⟨#[]⟩,.bool false]) := by
  show _ = _
  have hkb : (keyB ky && decide (vl.size <= 30)) = true ↔ (1 <= s[1].toNat /\ s[1].toNat <= 20) /\ s[2].toNat <= 30 := by
   rw [keyB,kz,vz]; simp
  by_cases hq : (1 <= s[1].toNat /\ s[1].toNat <= 20) /\ s[2].toNat <= 30
  ·rw [if_pos (hkb.2 hq)]
   have hno : ¬ (s.size < 3 + s[1].toNat + s[2].toNat \/ s[1].toNat < 1 \/ 20 < s[1].toNat \/ 30 < s[2].toNat) := by omega
   cases pb
   ·have hv : s[2].toNat = 0 := g2.resolve_left (by decide)
    rw [entR_some (show ent1 s.data.toList = some ((⟨false,(s.data.toList.drop 3).take s[1].toNat,[]⟩ : Ent),3 + s[1].toNat) by rw [HE.out,if_neg hno,if_neg (by decide),if_pos hv]),hky,hvl,hrs2,hv,Nat.add_zero,List.drop_drop]
    rfl
   ·rw [entR_some (by rw [HE.out,if_neg hno,if_pos rfl]),hky,hvl,hrs2,List.drop_drop,List.drop_drop,Nat.add_assoc]
  ·rw [if_neg (fun h => hq (hkb.1 h))]
   exact entR_none (by rw [HE.out,if_pos (by omega)])
 have m1 : IntKind.i64.wrap ((s[1].toNat : Int) + (s[2].toNat : Int)) = (s[1].toNat : Int) + (s[2].toNat : Int) := by rw [IntKind.wrap_i64]; omega
 have t4 : pb = false -> ((s[2].toNat : Int) != 0) = false := by
  intro hp
  rcases g2 with g2 | g2
  ·rw [hp] at g2; cases g2
  ·rw [bne_eq_false_iff_eq]; omega
 clear HE HRL hky hvl hrs2 kz vz g2
 obtain ⟨pq,hpq⟩ : ∃ pq,pq = pb := ⟨_,rfl⟩
 have HPQ : Hid (pq = pb) := hpq
 clear hpq
 cases pb
 all_goals
  first | have t2' := t2 rfl | skip
  first | have t4' := t4 rfl | skip
  clear t2 t4
  go_wp2_with fail
  go_quiet (fail)
  go_wp2_with fail
  have hz3 : ((w.alloc (.cells #[.bool false,.string ⟨#[]⟩,.string ⟨#[]⟩] 106)).drewN nq).heap.size = w.heap.size + 1 := by simp
  have HC3 : Hid (Keep3 w ((w.alloc (.cells #[.bool false,.string ⟨#[]⟩,.string ⟨#[]⟩] 106)).drewN nq)) := keep3_new w nq
  generalize (w.alloc (.cells #[.bool false,.string ⟨#[]⟩,.string ⟨#[]⟩] 106)).drewN nq = W3 at *
  go_cut [8] (fun c wx => c = .pointer (some ⟨w.heap.size + 1,0,none⟩) /\ (wx.cell? ⟨w.heap.size + 1,0,none⟩ = some (.bool pq) /\ wx.cell? ⟨w.heap.size + 1,1,none⟩ = some (.string ky) /\ wx.cell? ⟨w.heap.size + 1,2,none⟩ = some (.string vl)) /\ Below W3.heap.size W3 wx /\ w.heap.size + 1 < wx.heap.size)
  case first =>
   go_region_held3 (fun w' => W3.heap.size <= w'.heap.size) (first | (simp) | (simp; omega)) (first | (fail))
   all_goals
    go_wp2_with fail
    go_meet
    refine ⟨rfl,⟨?_,?_,?_⟩,?_,?_⟩
    ·rw [HPQ.out,<- hz3]; simp
    ·rw [<- hz3]; simp
    ·rw [<- hz3]; simp
    ·first | exact ((Below.refl _ _).alloc (Nat.le_refl _) _).drew | exact (((Below.refl _ _).alloc (Nat.le_refl _) _).setCell (by simp) _).drew
    ·simp; omega
  case rest =>
   obtain ⟨rfl,⟨c0',c1',c2'⟩,hb2,hzz⟩ := hcut
   have HK := HC3.out.below hb2
   clear HC3 hb2 c0 c1 c2 c3 u1 u2
   rw [HPQ.out] at c0'
   go_wp2_with fail
   refine (isRight_any _ _ _ _).mono ?_
   rintro e w2 ⟨rfl,hb3⟩
   have HK2 := HK.below hb3
   obtain ⟨⟨r0,r1,r2⟩,rf,hB,hzr⟩ := HK2
   have f0 := rf 0
   have f1 := rf 1
   have f2 := rf 2
   have d0 := (hb3.cell (p := ⟨w.heap.size + 1,0,none⟩) hzz).trans c0'
   have d1 := (hb3.cell (p := ⟨w.heap.size + 1,1,none⟩) hzz).trans c1'
   have d2 := (hb3.cell (p := ⟨w.heap.size + 1,2,none⟩) hzz).trans c2'
   have HB : Hid (Below w.heap.size w w2) := hB
   clear HK hb3 c0' c1' c2' rf hB
   generalize (keyB ky && decide (vl.size <= 30)) = q at *
   cases q
   ·have HR : Hid (entR s.data.toList = .tuple #[.agg #[.bool false,.string ⟨#[]⟩,.string ⟨#[]⟩],.string ⟨#[]⟩,.bool false]) := HGO.out
    clear HGO u3
    go_wp2
    exact bodyPost_ret (v := .tuple #[.agg #[.bool false,.string ⟨#[]⟩,.string ⟨#[]⟩],.string ⟨#[]⟩,.bool false]) (by simp [results,Tryz.results205,go_sem,r0,r1,r2]) rfl ⟨by rw [HR.out],((HB.out.setCell (Nat.le_refl _) _).setCell (Nat.le_refl _) _).setCell (Nat.le_refl _) _⟩
   ·have HR : Hid (entR s.data.toList = _) := HGO.out
    clear HGO
    go_wp2_with fail
    go_region_held3 (fun w' => w'.cell? ⟨w.heap.size + 1,0,none⟩ = w2.cell? ⟨w.heap.size + 1,0,none⟩ /\ w'.cell? ⟨w.heap.size + 1,1,none⟩ = w2.cell? ⟨w.heap.size + 1,1,none⟩ /\ w'.cell? ⟨w.heap.size + 1,2,none⟩ = w2.cell? ⟨w.heap.size + 1,2,none⟩) (first | (exact ⟨far3 _ (by omega) _ _ _ 0,far3 _ (by omega) _ _ _ 1,far3 _ (by omega) _ _ _ 2⟩) | (exact ⟨rfl,rfl,rfl⟩)) (first | (fail))
    all_goals
     go_wp2
     exact bodyPost_ret (v := .tuple #[.agg #[.bool pq,.string ky,.string vl],.string rs,.bool true]) (by rw [HPQ.out]; simp [results,Tryz.results205,go_sem,r0,r1,r2]) rfl ⟨by rw [HR.out,HPQ.out]; rfl,(((HB.out.setCell (Nat.le_refl _) _).setCell (Nat.le_refl _) _).setCell (Nat.le_refl _) _).drew⟩
theorem readEntry_any (s : ByteArray) (w : World) (hs : s.size <= 140737488351232) :
  Calls Tryz.prog 205 #[.string s] w fun e w' => e = .returned (entR s.data.toList) /\ Below w.heap.size w w' := by
 by_cases h3 : 3 <= s.size
 ·by_cases hp : s[0] = 112
  ·by_cases hb : s.size < 3 + s[1].toNat + s[2].toNat
   ·exact readEntry_bad s w hs h3 true hp (.inl hb)
   ·exact readEntry_good s w hs h3 true hp (by omega) (.inl rfl)
  ·by_cases hd : s[0] = 100
   ·by_cases hb : s.size < 3 + s[1].toNat + s[2].toNat
    ·exact readEntry_bad s w hs h3 false ⟨hp,hd⟩ (.inl hb)
    ·by_cases hv : s[2].toNat = 0
     ·exact readEntry_good s w hs h3 false ⟨hp,hd⟩ (by omega) (.inr hv)
     ·exact readEntry_bad s w hs h3 false ⟨hp,hd⟩ (.inr ⟨by omega,rfl,hv⟩)
   ·exact readEntry_early s w hs (.inr ⟨h3,hp,hd⟩)
 ·exact readEntry_early s w hs (.inl (by omega))
def Full (t : List (Option Slt)) (p : Nat) : Prop := ∃ x,t[p]? = some (some x)
def Stored (t : List (Option Slt)) (z : Slt) : Prop := ∃ p : Nat,t[p]? = some (some z)
def Path (t : List (Option Slt)) (x : Slt) (a : Nat) : Prop := ∀ j,j < awayN t.length x a -> Full t ((x.num % t.length + j) % t.length)
def Run (t : List (Option Slt)) : Prop := ∀ (p : Nat) (x : Slt),t[p]? = some (some x) -> Path t x p
theorem full_set {t : List (Option Slt)} {a p : Nat} (x : Slt) (h : Full t p) : Full (t.set a (some x)) p := by
 obtain ⟨y,hy⟩ := h
 have hp := (List.getElem?_eq_some_iff.1 hy).1
 by_cases e : a = p
 ·subst e; exact ⟨x,by rw [List.getElem?_set_self hp]⟩
 ·exact ⟨y,by rw [List.getElem?_set_ne e]; exact hy⟩
theorem path_set {t : List (Option Slt)} {a p : Nat} {z : Slt} (x : Slt) (h : Path t z p) : Path (t.set a (some x)) z p := by
 intro j hj
 rw [List.length_set] at hj ⊢
 exact full_set x (h j hj)
theorem away_home {n a : Nat} {x : Slt} (ha : a < n) : (x.num % n + awayN n x a) % n = a := by
 have hx := Nat.mod_lt x.num (show 0 < n by omega)
 rw [awayN_ref x ha]
 split
 ·rw [show x.num % n + (a + n - x.num % n) = a + n by omega,Nat.add_mod_right,Nat.mod_eq_of_lt ha]
 ·rw [show x.num % n + (a - x.num % n) = a by omega,Nat.mod_eq_of_lt ha]
theorem away_next {n a : Nat} {x : Slt} (ha : a < n) {j : Nat} (hj : j < awayN n x ((a + 1) % n)) : j <= awayN n x a := by
 have hx := Nat.mod_lt x.num (show 0 < n by omega)
 have hb := Nat.mod_lt (a + 1) (show 0 < n by omega)
 rw [awayN_ref x hb] at hj
 rw [awayN_ref x ha]
 by_cases h : a + 1 < n
 ·rw [Nat.mod_eq_of_lt h] at hj
  split at hj <;> split <;> omega
 ·have e : a + 1 = n := by omega
  rw [e,Nat.mod_self] at hj
  split at hj <;> split <;> omega
theorem path_next {t : List (Option Slt)} {a : Nat} {x : Slt} (ha : a < t.length) (h : Path t x a) (hf : Full t a) : Path t x ((a + 1) % t.length) := by
 intro j hj
 have := away_next ha hj
 by_cases e : j = awayN t.length x a
 ·subst e; rw [away_home ha]; exact hf
 ·exact h j (by omega)
theorem run_set {t : List (Option Slt)} {a : Nat} {x : Slt} (h : Run t) (hp : Path t x a) (ha : a < t.length) : Run (t.set a (some x)) := by
 intro p z hz
 by_cases e : a = p
 ·subst e
  rw [List.getElem?_set_self ha] at hz
  cases hz
  exact path_set x hp
 ·rw [List.getElem?_set_ne e] at hz
  exact path_set x (h p z hz)
theorem stored_set {t : List (Option Slt)} {a : Nat} {x : Slt} (ha : a < t.length) (z : Slt) : Stored (t.set a (some x)) z ↔ z = x \/ ∃ p : Nat,p ≠ a /\ t[p]? = some (some z) := by
 constructor
 ·rintro ⟨p,hp⟩
  by_cases e : a = p
  ·subst e; rw [List.getElem?_set_self ha] at hp; cases hp; exact .inl rfl
  ·rw [List.getElem?_set_ne e] at hp; exact .inr ⟨p,fun h => e h.symm,hp⟩
 ·rintro (rfl | ⟨p,hp,h⟩)
  ·exact ⟨a,by rw [List.getElem?_set_self ha]⟩
  ·exact ⟨p,by rw [List.getElem?_set_ne (fun h => hp h.symm)]; exact h⟩
theorem put_run (n e : Nat) (he : e < n) : ∀ (f : Nat) (t : List (Option Slt)) (x : Slt) (a : Nat),t.length = n -> a < n -> t[e]? = some none -> gap n e a < f -> Run t -> Path t x a ->
  Run (putF f t x a) /\ ∀ z,Stored (putF f t x a) z ↔ z = x \/ Stored t z := by
 intro f
 induction f with
 | zero => intro t x a _ _ _ h; omega
 | succ f ih =>
  intro t x a hn ha hfree hg hr hp
  rw [putF]
  cases ht : t[a]? with
  | none => exfalso; rw [List.getElem?_eq_none_iff] at ht; omega
  | some o =>
   cases o with
   | none =>
    simp only
    refine ⟨run_set hr hp (by omega),fun z => ?_⟩
    rw [stored_set (by omega)]
    constructor
    ·rintro (h | ⟨p,_,h⟩)
     ·exact .inl h
     ·exact .inr ⟨p,h⟩
    ·rintro (h | ⟨p,h⟩)
     ·exact .inl h
     ·exact .inr ⟨p,(fun e => by subst e; rw [ht] at h; cases h),h⟩
   | some y =>
    simp only
    have hae : a ≠ e := fun h => by subst h; rw [ht] at hfree; cases hfree
    have hgs := gap_step ha he hae
    have hnx : (a + 1) % n < n := Nat.mod_lt _ (by omega)
    rw [hn]
    split
    ·have hr2 := run_set (x := x) hr hp (by omega)
     have hpy : Path (t.set a (some x)) y ((a + 1) % n) := by
      have h1 : Path t y ((a + 1) % t.length) := path_next (by omega) (hr a y ht) ⟨y,ht⟩
      rw [hn] at h1
      exact path_set x h1
     obtain ⟨h1,h2⟩ := ih (t.set a (some x)) y ((a + 1) % n) (by simp [hn]) hnx (by rw [List.getElem?_set_ne hae]; exact hfree) (by omega) hr2 hpy
     refine ⟨h1,fun z => ?_⟩
     rw [h2,stored_set (by omega)]
     constructor
     ·rintro (rfl | rfl | ⟨p,_,h⟩)
      ·exact .inr ⟨a,ht⟩
      ·exact .inl rfl
      ·exact .inr ⟨p,h⟩
     ·rintro (rfl | ⟨p,h⟩)
      ·exact .inr (.inl rfl)
      ·by_cases e : p = a
       ·subst e; rw [ht] at h; cases h; exact .inl rfl
       ·exact .inr (.inr ⟨p,e,h⟩)
    ·have h1 : Path t x ((a + 1) % t.length) := path_next (by omega) hp ⟨y,ht⟩
     rw [hn] at h1
     exact ih t x ((a + 1) % n) hn hnx hfree (by omega) hr h1
theorem path_home {t : List (Option Slt)} (x : Slt) (h : 0 < t.length) : Path t x (x.num % t.length) := by
 intro j hj
 rw [awayN_ref x (Nat.mod_lt _ h),if_neg (by omega),Nat.sub_self] at hj
 omega
theorem fill_run {n : Nat} (xs : List Slt) (h : xs.length < n) : Run (fillL n xs) /\ ∀ z,Stored (fillL n xs) z ↔ z ∈ xs := by
 have gen : ∀ (k : Nat),k <= xs.length -> Run (fillL n (xs.take k)) /\ ∀ z,Stored (fillL n (xs.take k)) z ↔ z ∈ xs.take k := by
  intro k
  induction k with
  | zero =>
   intro _
   refine ⟨fun p x hx => ?_,fun z => ⟨?_,fun hz => by simp at hz⟩⟩
   ·have := List.mem_of_getElem? hx; simp [fillL] at this
   ·rintro ⟨p,hp⟩; have := List.mem_of_getElem? hp; simp [fillL] at this
  | succ k ih =>
   intro hk
   obtain ⟨h1,h2⟩ := ih (by omega)
   rw [List.take_succ_eq_append_getElem (show k < xs.length by omega),fillL_snoc]
   obtain ⟨e,he,hf⟩ := fillL_free (n := n) (xs := xs.take k) (by simp; omega)
   have hl := fillL_length n (xs.take k)
   have := put_run n e he n (fillL n (xs.take k)) xs[k] (xs[k].num % n) hl (Nat.mod_lt _ (by omega)) hf (gap_lt (by omega)) h1 (by have := path_home (t := fillL n (xs.take k)) xs[k] (by omega); rwa [hl] at this)
   unfold putL
   rw [hl]
   refine ⟨this.1,fun z => ?_⟩
   rw [this.2,h2,List.mem_append]
   simp [or_comm]
 have := gen xs.length (Nat.le_refl _)
 rwa [List.take_length] at this
theorem slt_parts {x : Slt} (h1 : x.num < 4294967296) (h2 : x.blk < 4294967296) (h3 : x.no < 256) :
  ((sltB (some x)).getD 0 0).toNat = 1 /\ highL (((sltB (some x)).drop 1).take 4) = x.num /\ highL (((sltB (some x)).drop 5).take 4) = x.blk /\ ((sltB (some x)).getD 9 0).toNat = x.no := by
 have e : sltB (some x) = [1] ++ (lowL x.num 4 ++ (lowL x.blk 4 ++ lowL x.no 1)) := by simp [sltB,lowL]
 have l1 := lowL_len x.num 4
 have l2 := lowL_len x.blk 4
 rw [e]
 refine ⟨rfl,?_,?_,?_⟩
 ·rw [List.drop_append_of_le_length (by simp),List.drop_of_length_le (by simp),List.nil_append,List.take_append_of_le_length (by omega),List.take_of_length_le (by omega),highL_lowL _ _ (by omega)]
 ·have : ([1] ++ (lowL x.num 4 ++ (lowL x.blk 4 ++ lowL x.no 1))).drop 5 = lowL x.blk 4 ++ lowL x.no 1 := by
   rw [<- List.append_assoc,List.drop_append_of_le_length (by simp [l1]),List.drop_of_length_le (by simp [l1]),List.nil_append]
  rw [this,List.take_append_of_le_length (by omega),List.take_of_length_le (by omega),highL_lowL _ _ (by omega)]
 ·have : ([1] ++ (lowL x.num 4 ++ (lowL x.blk 4 ++ lowL x.no 1)))[9]? = some (UInt8.ofNat (x.no % 256)) := by
   rw [<- List.append_assoc,<- List.append_assoc,List.getElem?_append_right (by simp [l1,l2])]
   simp [l1,l2,lowL]
  rw [List.getD_eq_getElem?_getD,this]
  simp
  omega
def PlaceIs (log : List UInt8) (blk : Int) (x : Sd) : Prop := ∃ es k,blockP log x.blk blk = some (es,k) /\ es[x.no]? = some ⟨x.put,x.key,x.val⟩
theorem slot_says {log key : List UInt8} {blk : Int} {want k : Nat} {z : Slt} {x : Sd} (hp : PlaceIs log blk x) (hput : x.put = true) (hb : z.blk = x.blk) (hno : z.no = x.no) (hn : z.num < 4294967296) (hbl : z.blk < 4294967296) (hn2 : z.no < 256) :
  slotStep log key want blk k (sltB (some z)) = if z.num = want /\ x.key = key then some ⟨x.val,k + 1,0⟩ else none := by
 obtain ⟨p0,p1,p2,p3⟩ := slt_parts hn hbl hn2
 obtain ⟨es,kk,e1,e2⟩ := hp
 unfold slotStep
 rw [p0,p1,p2,p3,if_neg (by omega),hb,hno,e1]
 by_cases h : z.num = want
 ·rw [if_neg (by simp [h])]
  unfold entStep
  simp only [e2]
  rw [hput]
  by_cases hk : x.key = key <;> simp [h,hk]
 ·rw [if_pos (.inr h),if_neg (by simp [h])]
structure TabHolds (log : List UInt8) (seed bits : Int) (blk : Int) (live : List Sd) (t : List (Option Slt)) : Prop where
 run : Run t
 all : ∀ z,Stored t z ↔ z ∈ live.map (sltOf seed bits)
 keys : live.Pairwise (fun x y => x.key ≠ y.key)
 place : ∀ x ∈ live,PlaceIs log blk x /\ x.put = true /\ x.blk < 4294967296 /\ x.no < 256
 bits : 0 <= bits /\ bits <= 32
 pos : 0 < t.length
theorem TabHolds.slot {log : List UInt8} {seed bits blk : Int} {live : List Sd} {t : List (Option Slt)} (h : TabHolds log seed bits blk live t) {key : List UInt8} {p : Nat} {z : Slt} (hz : t[p]? = some (some z)) (want k : Nat) :
  ∃ x ∈ live,z = sltOf seed bits x /\ slotStep log key want blk k (sltB (some z)) = if z.num = want /\ x.key = key then some ⟨x.val,k + 1,0⟩ else none := by
 obtain ⟨x,hx,rfl⟩ := List.mem_map.1 ((h.all z).1 ⟨p,hz⟩)
 obtain ⟨h1,h2,h3,h4⟩ := h.place x hx
 have hr := numberI_range seed bits x.key h.bits.1 h.bits.2
 exact ⟨x,hx,rfl,slot_says h1 h2 rfl rfl (by show (numberI seed bits x.key).toNat < _; omega) h3 h4⟩
theorem low_cut (pre mid post : List UInt8) (k n : Nat) (hk : pre.length = k) (hm : mid.length = n) : ((pre ++ (mid ++ post)).drop k).take n = mid := by
 rw [List.drop_append_of_le_length (by omega),List.drop_of_length_le (by omega),List.nil_append,List.take_append_of_le_length (by omega),List.take_of_length_le (by omega)]
theorem sealL_sealed (l : List UInt8) : sealedB (sealL l) = true := by
 unfold sealedB
 rw [sealL_length,show l.length + 4 - 4 = l.length by omega]
 have : (sealL l).take l.length = l := by unfold sealL; rw [List.take_append_of_le_length (by omega),List.take_of_length_le (by omega)]
 rw [this]
 simp
theorem sumI_lt (l : List UInt8) : 0 <= sumI l /\ sumI l < 4294967296 := by unfold sumI; omega
theorem front_back {a b c d e : Nat} (post : List UInt8) (hb : b < 65536) (hc : c < 65536) (hd : d < 4294967296) (he : e < 4294967296) :
  ixN (sealL (frontB a b c d e) ++ post) = b /\ ixFar (sealL (frontB a b c d e) ++ post) = c /\ ixSize (sealL (frontB a b c d e) ++ post) = d /\ ixSum (sealL (frontB a b c d e) ++ post) = e /\
  (sealL (frontB a b c d e) ++ post).take 20 = sealL (frontB a b c d e) /\ (sealL (frontB a b c d e) ++ post).take 2 = [73,88] := by
 have la := lowL_len a 2
 have lb := lowL_len b 2
 have lc := lowL_len c 2
 have ld := lowL_len d 4
 have le := lowL_len e 4
 have f1 := low_cut ([73,88] ++ lowL a 2) (lowL b 2) (lowL c 2 ++ (lowL d 4 ++ (lowL e 4 ++ (lowL (crcN (frontB a b c d e)) 4 ++ post)))) 4 2 (by simp [la]) lb
 have f2 := low_cut ([73,88] ++ lowL a 2 ++ lowL b 2) (lowL c 2) (lowL d 4 ++ (lowL e 4 ++ (lowL (crcN (frontB a b c d e)) 4 ++ post))) 6 2 (by simp [la,lb]) lc
 have f3 := low_cut ([73,88] ++ lowL a 2 ++ lowL b 2 ++ lowL c 2) (lowL d 4) (lowL e 4 ++ (lowL (crcN (frontB a b c d e)) 4 ++ post)) 8 4 (by simp [la,lb,lc]) ld
 have f4 := low_cut ([73,88] ++ lowL a 2 ++ lowL b 2 ++ lowL c 2 ++ lowL d 4) (lowL e 4) (lowL (crcN (frontB a b c d e)) 4 ++ post) 12 4 (by simp [la,lb,lc,ld]) le
 have e1 : sealL (frontB a b c d e) ++ post = [73,88] ++ lowL a 2 ++ (lowL b 2 ++ (lowL c 2 ++ (lowL d 4 ++ (lowL e 4 ++ (lowL (crcN (frontB a b c d e)) 4 ++ post))))) := by simp [sealL,frontB]
 refine ⟨?_,?_,?_,?_,?_,?_⟩
 ·unfold ixN; rw [e1,f1,highL_lowL _ _ (by omega)]
 ·unfold ixFar; rw [e1,show ([73,88] ++ lowL a 2 ++ (lowL b 2 ++ (lowL c 2 ++ (lowL d 4 ++ (lowL e 4 ++ (lowL (crcN (frontB a b c d e)) 4 ++ post)))))) = ([73,88] ++ lowL a 2 ++ lowL b 2 ++ (lowL c 2 ++ (lowL d 4 ++ (lowL e 4 ++ (lowL (crcN (frontB a b c d e)) 4 ++ post))))) by simp,f2,highL_lowL _ _ (by omega)]
 ·unfold ixSize; rw [e1,show ([73,88] ++ lowL a 2 ++ (lowL b 2 ++ (lowL c 2 ++ (lowL d 4 ++ (lowL e 4 ++ (lowL (crcN (frontB a b c d e)) 4 ++ post)))))) = ([73,88] ++ lowL a 2 ++ lowL b 2 ++ lowL c 2 ++ (lowL d 4 ++ (lowL e 4 ++ (lowL (crcN (frontB a b c d e)) 4 ++ post)))) by simp,f3,highL_lowL _ _ (by omega)]
 ·unfold ixSum; rw [e1,show ([73,88] ++ lowL a 2 ++ (lowL b 2 ++ (lowL c 2 ++ (lowL d 4 ++ (lowL e 4 ++ (lowL (crcN (frontB a b c d e)) 4 ++ post)))))) = ([73,88] ++ lowL a 2 ++ lowL b 2 ++ lowL c 2 ++ lowL d 4 ++ (lowL e 4 ++ (lowL (crcN (frontB a b c d e)) 4 ++ post))) by simp,f4,highL_lowL _ _ (by omega)]
 ·rw [List.take_append_of_le_length (by rw [sealL_length,frontB_length]; omega),List.take_of_length_le (by rw [sealL_length,frontB_length]; omega)]
 ·rw [e1]; rfl
def OpV.sized (o : OpV) : Prop := o.s.size <= 140737488351232 /\ o.t.size <= 140737488351232 /\ o.u.size <= 140737488351232 /\ o.x <= 9223372036854775807 /\ o.y <= 9223372036854775807
def OpAt (w : World) (b off : Nat) (o : OpV) : Prop :=
 w.cell? ⟨b,off,none⟩ = some (.int .i64 o.kind) /\ w.cell? ⟨b,off + 1,none⟩ = some (.int .i64 o.at') /\ w.cell? ⟨b,off + 2,none⟩ = some (.int .i64 o.x) /\ w.cell? ⟨b,off + 3,none⟩ = some (.int .i64 o.y) /\
 w.cell? ⟨b,off + 4,none⟩ = some (.string o.s) /\ w.cell? ⟨b,off + 5,none⟩ = some (.string o.t) /\ w.cell? ⟨b,off + 6,none⟩ = some (.string o.u) /\
 w.cell? ⟨b,off + 7,none⟩ = some (.int .i64 o.c0) /\ w.cell? ⟨b,off + 8,none⟩ = some (.int .i64 o.c1) /\ w.cell? ⟨b,off + 9,none⟩ = some (.int .i64 o.c2)
theorem OpAt.below {w w' : World} {b off : Nat} {o : OpV} (h : OpAt w b off o) {n : Nat} (hb : Below n w w') (hl : b < n) : OpAt w' b off o := by
 obtain ⟨h0,h1,h2,h3,h4,h5,h6,h7,h8,h9⟩ := h
 have f : ∀ i v,w.cell? ⟨b,i,none⟩ = some v -> w'.cell? ⟨b,i,none⟩ = some v := fun i v hv => (hb.cell (p := ⟨b,i,none⟩) hl).trans hv
 exact ⟨f _ _ h0,f _ _ h1,f _ _ h2,f _ _ h3,f _ _ h4,f _ _ h5,f _ _ h6,f _ _ h7,f _ _ h8,f _ _ h9⟩
def givenOps (s : ByteArray) : List OpV :=
  [⟨1,0,0,32,⟨#[97]⟩,⟨#[]⟩,⟨#[]⟩,0,0,0⟩,⟨2,0,0,0,s,⟨#[]⟩,⟨#[]⟩,0,0,0⟩,⟨4,0,0,0,s,⟨#[]⟩,⟨#[97]⟩,0,0,0⟩,⟨5,0,5000,0,⟨#[]⟩,⟨#[]⟩,⟨#[]⟩,0,0,0⟩,⟨6,0,0,0,⟨#[]⟩,⟨#[]⟩,⟨#[]⟩,40,7,2⟩,
   ⟨7,0,0,0,⟨#[97]⟩,⟨#[120]⟩,⟨#[]⟩,0,0,0⟩,⟨9,0,0,0,⟨#[]⟩,⟨#[]⟩,⟨#[]⟩,0,0,0⟩,⟨11,0,0,0,⟨#[]⟩,⟨#[]⟩,⟨#[]⟩,0,0,0⟩,⟨12,0,0,0,⟨#[97]⟩,⟨#[]⟩,⟨#[]⟩,0,0,0⟩,⟨13,0,0,0,⟨#[]⟩,⟨#[]⟩,⟨#[]⟩,0,0,0⟩]
def givenCells (s : ByteArray) : Array Value := ((givenOps s).flatMap OpV.cells).toArray
theorem given_lit (w : World) (s : ByteArray) (t : TypeId) (j : Nat) (hj : j < 10) : OpAt (w.alloc (.cells (givenCells s) t)) w.heap.size (j * 10) ((givenOps s)[j]'hj) := by
 have f : ∀ i,(w.alloc (.cells (givenCells s) t)).cell? ⟨w.heap.size,i,none⟩ = (givenCells s)[i]? := fun i => World.cell?_alloc_new w _ t i
 unfold OpAt
 rw [f,f,f,f,f,f,f,f,f,f]
 match j,hj with
 | 0,_ => exact ⟨rfl,rfl,rfl,rfl,rfl,rfl,rfl,rfl,rfl,rfl⟩
 | 1,_ => exact ⟨rfl,rfl,rfl,rfl,rfl,rfl,rfl,rfl,rfl,rfl⟩
 | 2,_ => exact ⟨rfl,rfl,rfl,rfl,rfl,rfl,rfl,rfl,rfl,rfl⟩
 | 3,_ => exact ⟨rfl,rfl,rfl,rfl,rfl,rfl,rfl,rfl,rfl,rfl⟩
 | 4,_ => exact ⟨rfl,rfl,rfl,rfl,rfl,rfl,rfl,rfl,rfl,rfl⟩
 | 5,_ => exact ⟨rfl,rfl,rfl,rfl,rfl,rfl,rfl,rfl,rfl,rfl⟩
 | 6,_ => exact ⟨rfl,rfl,rfl,rfl,rfl,rfl,rfl,rfl,rfl,rfl⟩
 | 7,_ => exact ⟨rfl,rfl,rfl,rfl,rfl,rfl,rfl,rfl,rfl,rfl⟩
 | 8,_ => exact ⟨rfl,rfl,rfl,rfl,rfl,rfl,rfl,rfl,rfl,rfl⟩
 | 9,_ => exact ⟨rfl,rfl,rfl,rfl,rfl,rfl,rfl,rfl,rfl,rfl⟩
theorem given_sized {s : ByteArray} (hs : s.size <= 1000) : ∀ o ∈ givenOps s,o.sized := by
 have z0 : (⟨#[]⟩ : ByteArray).size = 0 := rfl
 have z1 : (⟨#[97]⟩ : ByteArray).size = 1 := rfl
 have z2 : (⟨#[120]⟩ : ByteArray).size = 1 := rfl
 intro o ho
 simp only [givenOps,List.mem_cons,List.not_mem_nil,or_false] at ho
 rcases ho with rfl | rfl | rfl | rfl | rfl | rfl | rfl | rfl | rfl | rfl
 all_goals
  unfold OpV.sized
  dsimp only
  simp only [z0,z1,z2]
  omega
def Asks (hi : Int) : Prop := ∀ o : OpV,1 <= o.kind -> o.kind <= hi -> o.sized -> Reads o
def entB (e : Ent) : List UInt8 := (if e.put = true then 112 else 100) :: UInt8.ofNat e.key.length :: UInt8.ofNat e.val.length :: (e.key ++ e.val)
def entsB (es : List Ent) : List UInt8 := es.flatMap entB
def blockB (es : List Ent) : List UInt8 := sealL (lowL es.length 1 ++ lowL (entsB es).length 2 ++ entsB es)
def headL (blk seed bits : Nat) : List UInt8 := sealL ([76,71] ++ lowL blk 2 ++ lowL seed 4 ++ lowL bits 2)
def EntOk (e : Ent) : Prop := 1 <= e.key.length /\ e.key.length <= 20 /\ e.val.length <= 30 /\ (e.put = false -> e.val = [])
theorem entB_length (e : Ent) : (entB e).length = 3 + e.key.length + e.val.length := by simp [entB]; omega
theorem entsB_snoc (es : List Ent) (e : Ent) : entsB (es ++ [e]) = entsB es ++ entB e := by simp [entsB]
theorem headL_length (blk seed bits : Nat) : (headL blk seed bits).length = 14 := by simp [headL,sealL_length,lowL_len]
structure Fl where
 text : List UInt8
 sync : Nat
structure Dk where
 room : Nat
 down : Bool
 f0 : Option Fl
 f1 : Option Fl
 f2 : Option Fl
 left : Option (Nat × Nat)
 opn : Option Nat
 waits : List Ent
def Dk.file (d : Dk) (i : Nat) : Option Fl := if i = 0 then d.f0 else if i = 1 then d.f1 else if i = 2 then d.f2 else none
def Dk.put (d : Dk) (i : Nat) (f : Option Fl) : Dk := if i = 0 then { d with f0 := f } else if i = 1 then { d with f1 := f } else if i = 2 then { d with f2 := f } else d
def lenF (f : Option Fl) : Nat := match f with | none => 0 | some f => f.text.length
def Dk.used (d : Dk) : Nat := lenF d.f0 + lenF d.f1 + lenF d.f2
def Fl.fall (keep : Nat) (f : Fl) : Fl := ⟨f.text.take (f.sync + min keep (f.text.length - f.sync)),f.sync + min keep (f.text.length - f.sync)⟩
def Dk.falls (d : Dk) (keep : Nat) : Dk := { d with down := true,f0 := d.f0.map (Fl.fall keep),f1 := d.f1.map (Fl.fall keep),f2 := d.f2.map (Fl.fall keep),left := none,opn := none,waits := [] }
def Dk.count (d : Dk) : Bool × Dk := match d.left with
 | none => (true,d)
 | some (0,k) => (false,d.falls k)
 | some (n + 1,k) => (true,{ d with left := some (n,k) })
structure St where
 tag : Nat
 i : Nat
 n : Nat
 text : List UInt8
def stMake (i : Nat) : St := ⟨0,i,0,[]⟩
def stAppend (i : Nat) (t : List UInt8) : St := ⟨1,i,0,t⟩
def stCut (i n : Nat) : St := ⟨2,i,n,[]⟩
def stSync (i : Nat) : St := ⟨3,i,0,[]⟩
def stRename (i j : Nat) : St := ⟨4,i,j,[]⟩
def stRemove (i : Nat) : St := ⟨5,i,0,[]⟩
def Dk.take (d : Dk) (s : St) : Int × Dk :=
 if s.tag = 0 then (0,d.put s.i (some ⟨[],0⟩))
 else match d.file s.i with
 | none => (2,d)
 | some f =>
  if s.tag = 1 then (if d.room < d.used + s.text.length then (6,d) else (0,d.put s.i (some ⟨f.text ++ s.text,f.sync⟩)))
  else if s.tag = 2 then (0,d.put s.i (some ⟨f.text.take s.n,min f.sync (min s.n f.text.length)⟩))
  else if s.tag = 3 then (0,d.put s.i (some ⟨f.text,f.text.length⟩))
  else if s.tag = 4 then (0,(d.put s.i none).put s.n (some f))
  else (0,d.put s.i none)
def Dk.steps (d : Dk) : List St -> Int × Dk
 | [] => (0,d)
 | s :: ss => match d.count with
  | (false,d') => (8,d')
  | (true,d') => match d'.take s with
   | (e,d'') => if e = 0 then d''.steps ss else (e,d'')
def Dk.opens (d : Dk) (blk : Nat) : Dk := { d with opn := some blk,waits := [] }
def diskD (room : Int) : Option Dk := if room < 0 \/ 100000 < room then none else some ⟨room.toNat,false,none,none,none,none,none,[]⟩
def Dk.opening (d : Dk) (blk : Nat) (ss : List St) : Int × Dk := match d.steps ss with
 | (e,d') => if e = 0 then (0,d'.opens blk) else (e,d')
def Dk.create (d : Dk) (blk seed bits : Int) : Int × Dk :=
 if wellB blk seed bits = false then (1,d)
 else if d.down = true then (7,d)
 else if d.f0.isSome = true then (5,d)
 else d.opening blk.toNat [stMake 0,stAppend 0 (headL blk.toNat seed.toNat bits.toNat),stSync 0]
def Dk.write (d : Dk) : Int × Dk := match d.steps [stAppend 0 (blockB d.waits)] with
 | (e,d') => if e = 0 then (0,{ d' with waits := [] }) else (e,d')
def Dk.fits (d : Dk) (blk : Nat) (e : Ent) : Bool := d.waits.isEmpty || (decide (d.waits.length < 255) && decide ((entsB d.waits).length + (entB e).length <= blk))
def Dk.add (d : Dk) (e : Ent) : Int × Dk :=
 if e.key.length < 1 \/ 20 < e.key.length \/ 30 < e.val.length then (1,d)
 else if d.down = true then (7,d)
 else match d.opn with
 | none => (2,d)
 | some blk =>
  if d.fits blk e = true then (0,{ d with waits := d.waits ++ [e] })
  else match d.write with
  | (r,d') => if r = 0 then (0,{ d' with waits := d'.waits ++ [e] }) else (r,d')
def Dk.flush (d : Dk) : Int × Dk :=
 if d.down = true then (7,d)
 else match d.opn with
 | none => (2,d)
 | some _ =>
  if d.waits.isEmpty = true then d.steps [stSync 0]
  else match d.write with
  | (r,d') => if r = 0 then d'.steps [stSync 0] else (r,d')
def Dk.build (d : Dk) : Int × Dk :=
 if d.down = true then (7,d)
 else match d.f0 with
 | none => (2,d)
 | some f => match indexS f.text with
  | none => (3,d)
  | some ix => d.steps [stMake 1,stAppend 1 ix,stSync 1,stRename 1 2]
def Dk.both (d : Dk) : Option (List UInt8 × List UInt8) := match d.f0,d.f2 with
 | some f,some g => some (f.text,g.text)
 | _,_ => none
def Dk.get (d : Dk) (key : List UInt8) : List UInt8 × Int :=
 if d.down = true then ([],7)
 else match d.both with
 | none => ([],2)
 | some (log,ix) => ((lookS log ix key).val,(lookS log ix key).err)
def saidE (log ix : List UInt8) : Int := if beginsE log ix ≠ 0 then beginsE log ix else if indexS log = some ix then 0 else 3
def Dk.all (d : Dk) (called : Bool) : List Sd × Int :=
 if d.down = true then ([],7)
 else match d.both with
 | none => ([],2)
 | some (log,ix) => if saidE log ix = 0 then (if called = true then [] else liveL (readL log (hdBlk log) 14).1,0) else ([],saidE log ix)
def Dk.fail (d : Dk) (steps keep : Int) : Int × Dk :=
 if steps < 0 \/ keep < 0 then (1,d)
 else if d.down = true then (7,d)
 else if steps = 0 then (0,d.falls keep.toNat)
 else (0,{ d with left := some (steps.toNat,keep.toNat) })
def Dk.start (d : Dk) : Int × Dk := if d.down = true then (0,{ d with down := false }) else (1,d)
def Dk.mending (d : Dk) (log : List UInt8) : List St :=
  (if (readL log (hdBlk log) 14).2 < log.length then [stCut 0 (readL log (hdBlk log) 14).2] else []) ++ [stSync 0] ++
  (match d.f2 with
   | none => []
   | some g => if saidE (log.take (readL log (hdBlk log) 14).2) g.text = 0 then [] else [stRemove 2])
def Dk.mend (d : Dk) : Int × Dk :=
 if d.down = true then (7,d)
 else match d.f0 with
 | none => (2,d)
 | some f => if headB f.text = false then (3,d) else d.opening (hdBlk f.text) (d.mending f.text)
def nameN (name : List UInt8) : Nat := if name = [108,111,103] then 0 else if name = [110,101,119] then 1 else if name = [105,110,100,101,120] then 2 else 3
def Dk.fileR (d : Dk) (name : List UInt8) : List UInt8 × Int :=
 if d.down = true then ([],7)
 else match d.file (nameN name) with
 | none => ([],2)
 | some f => (f.text,0)
structure DkOk (d : Dk) : Prop where
 room : d.room <= 100000
 used : d.used <= d.room
 sync : ∀ i f,d.file i = some f -> f.sync <= f.text.length
 opn : ∀ blk,d.opn = some blk -> d.f0.isSome = true /\ 1 <= blk /\ blk <= 400 /\ d.down = false
 waits : d.opn = none -> d.waits = []
 ents : ∀ e ∈ d.waits,EntOk e
 most : d.waits.length <= 255
 size : ∀ blk,d.opn = some blk -> 1 < d.waits.length -> (entsB d.waits).length <= blk
def StFine (s : St) : Prop := (s.tag = 4 -> s.i ≠ 0) /\ (s.tag = 5 -> s.i ≠ 0) /\ s.tag <= 5
theorem dk_cases (d : Dk) (i : Nat) (f : Option Fl) : (i = 0 /\ d.put i f = { d with f0 := f }) \/ (i = 1 /\ d.put i f = { d with f1 := f }) \/ (i = 2 /\ d.put i f = { d with f2 := f }) \/ (3 <= i /\ d.put i f = d) := by
 unfold Dk.put
 by_cases h0 : i = 0
 ·left; simp [h0]
 ·by_cases h1 : i = 1
  ·right; left; simp [h1]
  ·by_cases h2 : i = 2
   ·right; right; left; simp [h2]
   ·right; right; right; simp [h0,h1,h2]; omega
theorem file_put (d : Dk) (i j : Nat) (f : Option Fl) (hi : i <= 2) : (d.put i f).file j = if j = i then f else d.file j := by
 rcases dk_cases d i f with ⟨rfl,h⟩ | ⟨rfl,h⟩ | ⟨rfl,h⟩ | ⟨h3,_⟩
 ·rw [h]; unfold Dk.file; by_cases h0 : j = 0 <;> simp [h0]
 ·rw [h]; unfold Dk.file; by_cases h0 : j = 0 <;> by_cases h1 : j = 1 <;> simp [h0,h1]
 ·rw [h]; unfold Dk.file; by_cases h0 : j = 0 <;> by_cases h1 : j = 1 <;> by_cases h2 : j = 2 <;> simp [h0,h1,h2]
 ·omega
theorem file_le {d : Dk} {i : Nat} {f : Fl} (h : d.file i = some f) : i <= 2 := by
 unfold Dk.file at h
 split at h
 ·omega
 ·split at h
  ·omega
  ·split at h
   ·omega
   ·cases h
theorem used_put (d : Dk) (i : Nat) (f : Option Fl) (hi : i <= 2) : (d.put i f).used + lenF (d.file i) = d.used + lenF f := by
 rcases dk_cases d i f with ⟨rfl,h⟩ | ⟨rfl,h⟩ | ⟨rfl,h⟩ | ⟨h3,_⟩
 ·rw [h]; unfold Dk.used Dk.file; simp; omega
 ·rw [h]; unfold Dk.used Dk.file; simp; omega
 ·rw [h]; unfold Dk.used Dk.file; simp; omega
 ·omega
theorem put_same (d : Dk) (i : Nat) (f : Option Fl) : (d.put i f).room = d.room /\ (d.put i f).down = d.down /\ (d.put i f).left = d.left /\ (d.put i f).opn = d.opn /\ (d.put i f).waits = d.waits := by
 rcases dk_cases d i f with ⟨rfl,h⟩ | ⟨rfl,h⟩ | ⟨rfl,h⟩ | ⟨h3,h⟩ <;> rw [h] <;> exact ⟨rfl,rfl,rfl,rfl,rfl⟩
theorem file_0 (d : Dk) : d.file 0 = d.f0 := rfl
theorem file_2 (d : Dk) : d.file 2 = d.f2 := rfl
theorem file_1 (d : Dk) : d.file 1 = d.f1 := rfl
theorem DkOk.put {d : Dk} (h : DkOk d) {i : Nat} (hi : i <= 2) {f : Option Fl} (hu : lenF f + d.used <= d.room + lenF (d.file i)) (hs : ∀ g,f = some g -> g.sync <= g.text.length) (h0 : i = 0 -> f.isSome = true) : DkOk (d.put i f) := by
 obtain ⟨p1,p2,p3,p4,p5⟩ := put_same d i f
 have hup := used_put d i f hi
 refine ⟨by rw [p1]; exact h.room,by rw [p1]; omega,fun j g hj => ?_,fun blk hb => ?_,?_,?_,?_,?_⟩
 ·rw [file_put d i j f hi] at hj
  split at hj
  ·exact hs g hj
  ·exact h.sync j g hj
 ·rw [p4] at hb
  obtain ⟨a,b,c,e⟩ := h.opn blk hb
  refine ⟨?_,b,c,by rw [p2]; exact e⟩
  rw [<- file_0,file_put d i 0 f hi]
  split
  ·rename_i e0; exact h0 e0.symm
  ·exact a
 ·rw [p4,p5]; exact h.waits
 ·rw [p5]; exact h.ents
 ·rw [p5]; exact h.most
 ·rw [p4,p5]; exact h.size
theorem fall_len (k : Nat) (f : Option Fl) : lenF (f.map (Fl.fall k)) <= lenF f := by
 cases f with
 | none => exact Nat.le_refl _
 | some f => simp [lenF,Fl.fall]; omega
theorem DkOk.falls {d : Dk} (h : DkOk d) (k : Nat) : DkOk (d.falls k) := by
 have l0 := fall_len k d.f0
 have l1 := fall_len k d.f1
 have l2 := fall_len k d.f2
 have hu := h.used
 refine ⟨h.room,?_,fun i f hf => ?_,(fun blk hb => by cases hb),fun _ => rfl,(fun e he => by cases he),by simp [Dk.falls],(fun blk hb => by cases hb)⟩
 ·unfold Dk.used at hu ⊢
  show lenF (d.f0.map _) + lenF (d.f1.map _) + lenF (d.f2.map _) <= d.room
  omega
 ·have e : (d.falls k).file i = (d.file i).map (Fl.fall k) := by
   unfold Dk.file Dk.falls
   split
   ·rfl
   ·split
    ·rfl
    ·split
     ·rfl
     ·rfl
  rw [e] at hf
  cases hg : d.file i with
  | none => rw [hg] at hf; cases hf
  | some g =>
   rw [hg] at hf
   simp at hf
   have := h.sync i g hg
   subst hf
   simp [Fl.fall]
   omega
theorem DkOk.count {d : Dk} (h : DkOk d) : DkOk d.count.2 := by
 unfold Dk.count
 split
 ·exact h
 ·exact h.falls _
 ·exact ⟨h.room,h.used,h.sync,h.opn,h.waits,h.ents,h.most,h.size⟩
theorem count_ok {d d' : Dk} (h : d.count = (true,d')) : d' = { d with left := d'.left } := by
 unfold Dk.count at h
 split at h
 ·cases h; rfl
 ·cases h
 ·cases h; rfl
theorem DkOk.take {d : Dk} (h : DkOk d) {s : St} (hs : StFine s) : DkOk (d.take s).2 := by
 have hu := h.used
 unfold Dk.take
 split
 ·rename_i ht
  by_cases hi : s.i <= 2
  ·exact h.put hi (by simp [lenF]; omega) (fun g e => by cases e; exact Nat.le_refl _) (fun _ => rfl)
  ·rcases dk_cases d s.i (some ⟨[],0⟩) with ⟨e,_⟩ | ⟨e,_⟩ | ⟨e,_⟩ | ⟨_,e⟩
   ·omega
   ·omega
   ·omega
   ·show DkOk (d.put s.i (some ⟨[],0⟩))
    rw [e]; exact h
 ·split
  ·exact h
  ·rename_i f hf
   have hi := file_le hf
   have hsy := h.sync _ _ hf
   have hlf : lenF (d.file s.i) = f.text.length := by rw [hf]; rfl
   split
   ·split
    ·exact h
    ·exact h.put hi (by rw [hlf]; simp [lenF]; omega) (fun g e => by cases e; simp; omega) (fun _ => rfl)
   ·split
    ·exact h.put hi (by rw [hlf]; simp [lenF]; omega) (fun g e => by cases e; simp; omega) (fun _ => rfl)
    ·split
     ·exact h.put hi (by rw [hlf]; simp [lenF]; omega) (fun g e => by cases e; exact Nat.le_refl _) (fun _ => rfl)
     ·split
      ·rename_i ht
       have h1 : DkOk (d.put s.i none) := h.put hi (by simp [lenF]; omega) (fun g e => by cases e) (fun e => absurd e (hs.1 ht))
       have u1 := used_put d s.i none hi
       rw [hlf] at u1
       simp only [lenF] at u1
       by_cases hn : s.n <= 2
       ·obtain ⟨p1,_⟩ := put_same d s.i none
        exact h1.put hn (by rw [p1]; simp [lenF]; omega) (fun g e => by cases e; exact hsy) (fun _ => rfl)
       ·rcases dk_cases (d.put s.i none) s.n (some f) with ⟨e,_⟩ | ⟨e,_⟩ | ⟨e,_⟩ | ⟨_,e⟩
        ·omega
        ·omega
        ·omega
        ·show DkOk ((d.put s.i none).put s.n (some f))
         rw [e]; exact h1
      ·exact h.put hi (by simp [lenF]; omega) (fun g e => by cases e) (fun e => absurd e (hs.2.1 (by have := hs.2.2; omega)))
theorem DkOk.steps {d : Dk} (h : DkOk d) (ss : List St) (hs : ∀ s ∈ ss,StFine s) : DkOk (d.steps ss).2 := by
 induction ss generalizing d with
 | nil => exact h
 | cons s ss ih =>
  have hc := h.count
  rw [Dk.steps]
  split
  ·rename_i d' e; rw [e] at hc; exact hc
  ·rename_i d' e
   rw [e] at hc
   have ht := DkOk.take hc (hs s (by simp))
   simp only at ht
   cases hk : d'.take s with
   | mk r d'' =>
    rw [hk] at ht
    simp only at ht ⊢
    split
    ·exact ih ht (fun x hx => hs x (by simp [hx]))
    ·exact ht
theorem take_same {d : Dk} (s : St) : (d.take s).2.down = d.down /\ (d.take s).2.opn = d.opn /\ (d.take s).2.waits = d.waits /\ (d.take s).2.room = d.room /\ (d.take s).2.left = d.left := by
 unfold Dk.take
 split
 ·obtain ⟨p1,p2,p3,p4,p5⟩ := put_same d s.i (some ⟨[],0⟩); exact ⟨p2,p4,p5,p1,p3⟩
 ·split
  ·exact ⟨rfl,rfl,rfl,rfl,rfl⟩
  ·rename_i f _
   split
   ·split
    ·exact ⟨rfl,rfl,rfl,rfl,rfl⟩
    ·obtain ⟨p1,p2,p3,p4,p5⟩ := put_same d s.i (some ⟨f.text ++ s.text,f.sync⟩); exact ⟨p2,p4,p5,p1,p3⟩
   ·split
    ·obtain ⟨p1,p2,p3,p4,p5⟩ := put_same d s.i (some ⟨f.text.take s.n,min f.sync (min s.n f.text.length)⟩); exact ⟨p2,p4,p5,p1,p3⟩
    ·split
     ·obtain ⟨p1,p2,p3,p4,p5⟩ := put_same d s.i (some ⟨f.text,f.text.length⟩); exact ⟨p2,p4,p5,p1,p3⟩
     ·split
      ·obtain ⟨p1,p2,p3,p4,p5⟩ := put_same d s.i none
       obtain ⟨q1,q2,q3,q4,q5⟩ := put_same (d.put s.i none) s.n (some f)
       exact ⟨q2.trans p2,q4.trans p4,q5.trans p5,q1.trans p1,q3.trans p3⟩
      ·obtain ⟨p1,p2,p3,p4,p5⟩ := put_same d s.i none; exact ⟨p2,p4,p5,p1,p3⟩
theorem count_same {d : Dk} (h : d.count.1 = true) : d.count.2.down = d.down /\ d.count.2.opn = d.opn /\ d.count.2.waits = d.waits /\ d.count.2.room = d.room /\ d.count.2.f0 = d.f0 /\ d.count.2.f1 = d.f1 /\ d.count.2.f2 = d.f2 := by
 unfold Dk.count at h ⊢
 split at h
 ·exact ⟨rfl,rfl,rfl,rfl,rfl,rfl,rfl⟩
 ·cases h
 ·exact ⟨rfl,rfl,rfl,rfl,rfl,rfl,rfl⟩
theorem steps_same {d : Dk} (ss : List St) : ((d.steps ss).1 ≠ 8 -> (d.steps ss).2.down = d.down /\ (d.steps ss).2.opn = d.opn /\ (d.steps ss).2.waits = d.waits) /\ ((d.steps ss).1 = 8 -> (d.steps ss).2.down = true /\ (d.steps ss).2.opn = none /\ (d.steps ss).2.waits = []) := by
 induction ss generalizing d with
 | nil => exact ⟨fun _ => ⟨rfl,rfl,rfl⟩,fun h => by simp [Dk.steps] at h⟩
 | cons s ss ih =>
  rw [Dk.steps]
  cases hc : d.count with
  | mk b d' =>
   cases b with
   | false =>
    simp only
    refine ⟨fun h => absurd rfl h,fun _ => ?_⟩
    unfold Dk.count at hc
    split at hc
    ·cases hc
    ·cases hc; exact ⟨rfl,rfl,rfl⟩
    ·cases hc
   | true =>
    simp only
    have c := count_same (d := d) (by rw [hc])
    rw [hc] at c
    obtain ⟨c1,c2,c3,_⟩ := c
    obtain ⟨t1,t2,t3,_⟩ := take_same (d := d') s
    cases ht : d'.take s with
    | mk e d'' =>
     rw [ht] at t1 t2 t3
     simp only at *
     split
     ·obtain ⟨i1,i2⟩ := ih (d := d'')
      exact ⟨fun h => by obtain ⟨a,b,c⟩ := i1 h; exact ⟨a.trans (t1.trans c1),b.trans (t2.trans c2),c.trans (t3.trans c3)⟩,i2⟩
     ·refine ⟨fun _ => ⟨t1.trans c1,t2.trans c2,t3.trans c3⟩,fun h => ?_⟩
      exfalso
      simp only at h
      subst h
      have : (d'.take s).1 = 0 \/ (d'.take s).1 = 2 \/ (d'.take s).1 = 6 := by
       unfold Dk.take
       split
       ·exact .inl rfl
       ·split
        ·exact .inr (.inl rfl)
        ·split
         ·split
          ·exact .inr (.inr rfl)
          ·exact .inl rfl
         ·split
          ·exact .inl rfl
          ·split
           ·exact .inl rfl
           ·split
            ·exact .inl rfl
            ·exact .inl rfl
      rw [ht] at this
      simp at this
def ScriptAt (w : World) (a : Option Addr) (L : List OpV) : Prop :=
 L = [] \/ ∃ b off,a = some ⟨b,off,none⟩ /\ b < w.heap.size /\ ∀ (k : Nat) (h : k < L.length),OpAt w b (off + k * 10) L[k]
theorem index_begins {log ix : List UInt8} (h : indexS log = some ix) : beginsE log ix = 0 := by
 unfold indexS at h
 split at h
 ·cases h
 rename_i hl
 split at h
 ·cases h
 rename_i hh
 split at h
 ·cases h
 split at h
 ·cases h
 rename_i h2
 have h := Option.some.inj h
 generalize liveL (readL log (hdBlk log) 14).1 = live at *
 have hsz := sizeL_bound (n := live.length) (by omega)
 have hbig := sizeL_big (n := live.length) (by omega)
 have htl : (tableOf (hdSeed log) (hdBits log) live).length = sizeL live.length := fillL_length _ _
 have hfar := farP_lt (n := sizeL live.length) (by omega) (tableOf (hdSeed log) (hdBits log) live) (sizeL live.length)
 have hs := sumI_lt log
 unfold indexB at h
 obtain ⟨b1,b2,b3,b4,b5,b6⟩ := front_back (a := live.length) (b := sizeL live.length) (c := farP (sizeL live.length) (tableOf (hdSeed log) (hdBits log) live) (sizeL live.length)) (d := log.length) (e := (sumI log).toNat) (sealL (tabB (tableOf (hdSeed log) (hdBits log) live))) (by omega) (by omega) (by omega) (by omega)
 have hpl : (sealL (frontB live.length (sizeL live.length) (farP (sizeL live.length) (tableOf (hdSeed log) (hdBits log) live) (sizeL live.length)) log.length (sumI log).toNat)).length = 20 := by rw [sealL_length,frontB_length]
 rw [h] at b1 b2 b3 b4 b5 b6
 have hlen : ix.length = 20 + 10 * sizeL live.length + 4 := by
  rw [<- h,List.length_append,hpl,sealL_length,tabB_length,htl]; omega
 unfold beginsE
 rw [if_neg (by
  rintro (h1 | h1 | h1 | h1 | h1)
  ·omega
  ·rw [b5,sealL_sealed] at h1; cases h1
  ·rw [b6] at h1; simp at h1
  ·omega
  ·exact h1 (by rw [b1]; exact hlen)),if_neg (by
  rintro (h1 | h1)
  ·exact h1 b3
  ·rw [b4] at h1; omega),if_neg hh]
theorem said_zero (log ix : List UInt8) : saidE log ix = 0 ↔ indexS log = some ix := by
 unfold saidE
 constructor
 ·intro h
  split at h
  ·rename_i h1; exact absurd h h1
  ·split at h
   ·assumption
   ·cases h
 ·intro h
  rw [if_neg (by rw [index_begins h]; simp),if_pos h]
end Go.Proofs.YtdhgebdbiehchaaGreatDoor
