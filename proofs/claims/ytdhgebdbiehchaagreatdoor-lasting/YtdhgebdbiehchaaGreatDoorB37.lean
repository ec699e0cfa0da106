/- On the way: RecLook, ProgLook. -/
import Derived.Test.YtdhgebdbiehchaaGreatDoorB35
import Derived.Test.YtdhgebdbiehchaaGreatDoorB36
namespace Go.Proofs.YtdhgebdbiehchaaGreatDoor
open Go.RowKit
set_option linter.unusedSimpArgs false
set_option linter.unusedVariables false
set_option maxRecDepth 100000
set_option maxHeartbeats 3200000
theorem ent1_val {l : List UInt8} {e : Ent} {n : Nat} (h : ent1 l = some (e,n)) : e.val.length <= 30 := by
 unfold ent1 at h
 split at h
 ·rename_i kd k v r
  split at h
  ·cases h
  ·rename_i hc
   split at h
   ·simp at h; obtain ⟨rfl,_⟩ := h; simp; omega
   ·split at h
    ·simp at h; obtain ⟨rfl,_⟩ := h; simp
    ·cases h
 ·cases h
theorem entsF_vals (n : Nat) (l : List UInt8) (es : List Ent) (h : entsF n l = some es) : ∀ e ∈ es,e.val.length <= 30 := by
 induction n generalizing l es with
 | zero =>
  rw [entsF] at h
  split at h
  ·cases h; simp
  ·cases h
 | succ n ih =>
  rw [entsF] at h
  split at h
  ·cases h; simp
  ·cases he : ent1 l with
   | none => rw [he] at h; cases h
   | some x =>
    obtain ⟨e,m⟩ := x
    rw [he] at h
    simp only at h
    cases hx : entsF n (l.drop m) with
    | none => rw [hx] at h; cases h
    | some y =>
     rw [hx] at h
     cases h
     intro z hz
     rcases List.mem_cons.1 hz with rfl | hz
     ·exact ent1_val he
     ·exact ih _ _ hx z hz
theorem blockP_vals {log : List UInt8} {a : Nat} {blk : Int} {es : List Ent} {k : Nat} (h : blockP log a blk = some (es,k)) : ∀ e ∈ es,e.val.length <= 30 := by
 unfold blockP at h
 split at h
 ·cases h
 ·split at h
  ·cases h
  ·unfold blkTail at h
   split at h
   ·rename_i es' hes
    split at h
    ·cases h
    ·simp only [Option.some.injEq,Prod.mk.injEq] at h
     obtain ⟨rfl,_⟩ := h
     exact entsF_vals _ _ _ hes
   ·cases h
theorem itemAt_val {log : List UInt8} {a no : Nat} {blk : Int} {e : Ent} (h : itemAt (blockP log a blk) no = some e) : e.val.length <= 30 := by
 cases hb : blockP log a blk with
 | none => rw [hb] at h; cases h
 | some x =>
  obtain ⟨es,k⟩ := x
  rw [hb] at h
  simp only [itemAt] at h
  cases hn : es[no]? with
  | none => rw [hn] at h; cases h
  | some e' =>
   rw [hn] at h
   simp only at h
   split at h
   ·cases h
    exact blockP_vals hb _ (List.mem_of_getElem? hn)
   ·cases h
theorem entStep_item (key : List UInt8) (k : Nat) (r : Option (List Ent × Nat)) (no : Nat) : entStep key k r no = match itemAt r no with
  | none => some ⟨[],0,3⟩
  | some e => if e.key = key then some ⟨e.val,k + 1,0⟩ else none := by
 unfold entStep itemAt
 rcases r with _ | ⟨es,m⟩
 ·rfl
 ·simp only
  cases es[no]? with
  | none => rfl
  | some e =>
   simp only
   cases hp : e.put <;> simp
theorem body_slot {ix : List UInt8} {n q : Nat} (hq : q < n) : (((ix.drop 20).take (10 * n)).drop (10 * q)).take 10 = slotL ix q := by
 unfold slotL
 rw [List.drop_take,List.drop_drop,List.take_take]
 congr 1
 omega
def ViewAt (w W : World) (log : ByteArray) (bk sd bt xl n xf xs xm : Nat) (body : ByteArray) : Prop := (W.cell? ⟨w.heap.size,0,none⟩ = some (.string log) /\ W.cell? ⟨w.heap.size,1,none⟩ = some (.int .i64 bk) /\ W.cell? ⟨w.heap.size,2,none⟩ = some (.int .i64 sd) /\ W.cell? ⟨w.heap.size,3,none⟩ = some (.int .i64 bt) /\ W.cell? ⟨w.heap.size,4,none⟩ = some (.int .i64 xl) /\ W.cell? ⟨w.heap.size,5,none⟩ = some (.int .i64 n) /\ W.cell? ⟨w.heap.size,6,none⟩ = some (.int .i64 xf) /\ W.cell? ⟨w.heap.size,7,none⟩ = some (.int .i64 xs) /\ W.cell? ⟨w.heap.size,8,none⟩ = some (.int .i64 xm) /\ W.cell? ⟨w.heap.size,9,none⟩ = some (.string body)) /\ Below w.heap.size w W /\ w.heap.size < W.heap.size
theorem ViewAt.below {w W W' : World} {log : ByteArray} {bk sd bt xl n xf xs xm : Nat} {body : ByteArray} (h : ViewAt w W log bk sd bt xl n xf xs xm body) (hb : Below W.heap.size W W') : ViewAt w W' log bk sd bt xl n xf xs xm body := by
 obtain ⟨⟨h0,h1,h2,h3,h4,h5,h6,h7,h8,h9⟩,hB,hz⟩ := h
 exact ⟨⟨(hb.cell (p := ⟨w.heap.size,0,none⟩) hz).trans h0,(hb.cell (p := ⟨w.heap.size,1,none⟩) hz).trans h1,(hb.cell (p := ⟨w.heap.size,2,none⟩) hz).trans h2,(hb.cell (p := ⟨w.heap.size,3,none⟩) hz).trans h3,(hb.cell (p := ⟨w.heap.size,4,none⟩) hz).trans h4,(hb.cell (p := ⟨w.heap.size,5,none⟩) hz).trans h5,(hb.cell (p := ⟨w.heap.size,6,none⟩) hz).trans h6,(hb.cell (p := ⟨w.heap.size,7,none⟩) hz).trans h7,(hb.cell (p := ⟨w.heap.size,8,none⟩) hz).trans h8,(hb.cell (p := ⟨w.heap.size,9,none⟩) hz).trans h9⟩,hB.trans (hb.mono (Nat.le_of_lt hz)),Nat.lt_of_lt_of_le hz hb.size⟩
theorem viewAt_new (w : World) (t : TypeId) (log : ByteArray) (bk sd bt xl n xf xs xm : Nat) (body : ByteArray) : ViewAt w (w.alloc (.cells #[.string log,.int .i64 bk,.int .i64 sd,.int .i64 bt,.int .i64 xl,.int .i64 n,.int .i64 xf,.int .i64 xs,.int .i64 xm,.string body] t)) log bk sd bt xl n xf xs xm body :=
 ⟨⟨by simp,by simp,by simp,by simp,by simp,by simp,by simp,by simp,by simp,by simp⟩,(Below.refl _ _).alloc (Nat.le_refl _) _,by simp⟩
theorem viewLook_any (log ix key : ByteArray) (w : World) (hlog : log.size <= 140737488351232) (hix : ix.size <= 140737488351232) (hkey : key.size <= 140737488351232) (hH : HalvesAt w) (he : beginsE log.data.toList ix.data.toList = 0) :
  Calls Tryz.prog 82 #[viewV log (hdBlk log.data.toList) (hdSeed log.data.toList) (hdBits log.data.toList) (ixLive ix.data.toList) (ixN ix.data.toList) (ixFar ix.data.toList) (ixSize ix.data.toList) (ixSum ix.data.toList) (S ((ix.data.toList.drop 20).take (10 * ixN ix.data.toList))),.string key] w fun e w' => e = .returned (ansV (lookS log.data.toList ix.data.toList key.data.toList)) /\ Below w.heap.size w w' := by
 have hlen : ix.data.toList.length = ix.size := by simp
 obtain ⟨g1,g2,g3⟩ := begins_zero he
 obtain ⟨⟨v0,v1⟩,v2,v3⟩ := head_well g3
 have hfar : ixFar ix.data.toList < 65536 := by
  have := highL_lt ((ix.data.toList.drop 6).take 2)
  have h4 := pow256_le (show ((ix.data.toList.drop 6).take 2).length <= 2 by simp; omega)
  unfold ixFar; omega
 have hnn : ixN ix.data.toList < 65536 := by
  have := highL_lt ((ix.data.toList.drop 4).take 2)
  have h4 := pow256_le (show ((ix.data.toList.drop 4).take 2).length <= 2 by simp; omega)
  unfold ixN; omega
 obtain ⟨r0,r1⟩ := numberI_range (hdSeed log.data.toList) (hdBits log.data.toList) key.data.toList (by omega) v3
 have HL : Hid (lookS log.data.toList ix.data.toList key.data.toList = lookGo log.data.toList ix.data.toList key.data.toList (numberI (hdSeed log.data.toList) (hdBits log.data.toList) key.data.toList).toNat (ixN ix.data.toList) (hdBlk log.data.toList) (ixFar ix.data.toList + 1) 0) := by
  show _ = _
  rw [lookS,if_pos he]
 have hnum := recNumber_any (hdBlk log.data.toList) (hdSeed log.data.toList) (hdBits log.data.toList) key
 obtain ⟨W,hW⟩ := Int.eq_ofNat_of_zero_le r0
 rw [hW] at hnum r0 r1 HL
 rw [Int.toNat_natCast] at HL
 have HNUM : Hid _ := hnum
 have hbz : (S ((ix.data.toList.drop 20).take (10 * ixN ix.data.toList))).size = 10 * ixN ix.data.toList := by
  rw [S_size]; simp; omega
 have HBS : Hid (∀ q,q < ixN ix.data.toList -> ((S ((ix.data.toList.drop 20).take (10 * ixN ix.data.toList))).data.toList.drop (10 * q)).take 10 = slotL ix.data.toList q) := fun q hq => by
  rw [S_data]; exact body_slot hq
 have HH : Hid (HalvesAt w) := hH
 clear he g3 hnum hW g1 hlen hH
 generalize S ((ix.data.toList.drop 20).take (10 * ixN ix.data.toList)) = body at *
 generalize hdBlk log.data.toList = B at *
 generalize hdSeed log.data.toList = sd at *
 generalize hdBits log.data.toList = bt at *
 generalize ixFar ix.data.toList = far at *
 generalize ixN ix.data.toList = n at *
 generalize ixLive ix.data.toList = xl at *
 generalize ixSize ix.data.toList = xs at *
 generalize ixSum ix.data.toList = xm at *
 have hV0 := viewAt_new w 141 log B sd bt xl n far xs xm body
 have HSLOT : Hid (∀ (k : Nat) (wx : World),k <= 65536 -> Calls Tryz.prog 141 #[viewV log B sd bt xl n far xs xm body,.int .i64 ((W : Int) + (k : Int))] wx fun e w' => e = .returned (slotV (slotL ix.data.toList ((W + k) % n))) /\ Below wx.heap.size wx w') := fun k wx hk => by
  have := slot_any log body B sd bt xl n far xs xm (W + k) wx (by omega) (by omega) hbz (by omega)
  rw [HBS.out _ (Nat.mod_lt _ (by omega))] at this
  exact this
 unfold viewV
 go_enter Tryz.func82,Tryz.ntmps82
 go_wp2_with fail
 refine (HNUM.out _ (by omega) (by omega) (by omega) (by omega) (by omega)).mono ?_
 rintro e w1 ⟨rfl,hb1⟩
 have hV1 := hV0.below hb1
 clear hV0 hb1 HNUM HBS
 have HV1 : Hid (ViewAt w w1 log B sd bt xl n far xs xm body) := hV1
 have c6 := hV1.1.2.2.2.2.2.2.1
 clear hV1
 go_wp2
 go_loopw [22] (fun i wr => ∃ (k : Nat),k <= far + 1 /\ i = .int .i64 k /\ ViewAt w wr log B sd bt xl n far xs xm body /\ Hid (lookS log.data.toList ix.data.toList key.data.toList = lookGo log.data.toList ix.data.toList key.data.toList W n B (far + 1 - k) k)) (fun i _ => far + 1 - (intOf i).toNat)
 case atStart => exact ⟨0,by omega,rfl,HV1.out,HL⟩
 case round =>
  obtain ⟨k,hk,rfl,hV,HK⟩ := hrel
  obtain ⟨W1,rfl⟩ : ∃ W1,W1 = wr := ⟨_,rfl⟩
  clear HL HV1 c6
  have hB0 := hV.2.1
  by_cases hlt : k < far + 1
  ·have hkk : far + 1 - k = (far - k) + 1 := by omega
   have HK2 : Hid (∀ a,slotStep log.data.toList key.data.toList W B k (slotL ix.data.toList ((W + k) % n)) = some a -> lookS log.data.toList ix.data.toList key.data.toList = a) := fun a h => by rw [HK.out,hkk,lookGo_some h]
   have HK3 : Hid (slotStep log.data.toList key.data.toList W B k (slotL ix.data.toList ((W + k) % n)) = none -> lookS log.data.toList ix.data.toList key.data.toList = lookGo log.data.toList ix.data.toList key.data.toList W n B (far + 1 - (k + 1)) (k + 1)) := fun h => by rw [HK.out,hkk,lookGo_none h,show far + 1 - (k + 1) = far - k by omega]
   have HC : Hid _ := HSLOT.out k W1 (by omega)
   obtain ⟨⟨h0,h1,h2,h3,h4,h5,h6,h7,h8,h9⟩,hB,hz⟩ := hV
   have HV : Hid (ViewAt w W1 log B sd bt xl n far xs xm body) := ⟨⟨h0,h1,h2,h3,h4,h5,h6,h7,h8,h9⟩,hB,hz⟩
   have hWk : W + k <= 4295032833 := by omega
   have hk6 : k <= 65536 := by omega
   have HLG : Hid (log.size <= 140737488351232) := hlog
   clear HK HSLOT hkk hB0 hB v0 v1 v2 v3 g2 r0 r1 hfar hnn hix hkey hk hbz hlog
   go_wp2_with fail
   refine Calls.mono HC.out ?_
   rintro e w2 ⟨rfl,hb2⟩
   have HV2 : Hid (ViewAt w w2 log B sd bt xl n far xs xm body) := HV.out.below hb2
   have HB2 : Hid (Below w.heap.size w w2) := HV2.out.2.1
   clear h0 h1 h2 h3 h4 h5 h6 h7 h8 h9 hz hb2 HC HV
   generalize slotL ix.data.toList ((W + k) % n) = L at *
   have HST : Hid (slotStep log.data.toList key.data.toList W B k L = if (L.getD 0 0).toNat = 0 then some ⟨[],k + 1,2⟩ else if (L.getD 0 0).toNat ≠ 1 \/ highL ((L.drop 1).take 4) ≠ W then none else entStep key.data.toList k (blockP log.data.toList (highL ((L.drop 5).take 4)) B) (L.getD 9 0).toNat) := rfl
   have hp4 : highL ((L.drop 5).take 4) < 4294967296 := highL4 _ (by simp; omega)
   have hn4 : highL ((L.drop 1).take 4) < 4294967296 := highL4 _ (by simp; omega)
   have hd1 := (L.getD 0 0).toNat_lt
   have hd9 := (L.getD 9 0).toNat_lt
   unfold slotV
   generalize (L.getD 0 0).toNat = kd at *
   generalize (L.getD 9 0).toNat = no at *
   generalize highL ((L.drop 1).take 4) = nm at *
   generalize highL ((L.drop 5).take 4) = pl at *
   obtain ⟨⟨h0,h1,h2,h3,h4,h5,h6,h7,h8,h9⟩,hB,hz⟩ := HV2.out
   have hn1 : w.heap.size ≠ w2.heap.size := by omega
   have hn2 : w2.heap.size ≠ w.heap.size := by omega
   clear hB
   by_cases e0 : kd = 0
   ·have t0 : ((kd : Int) == 0) = true := by rw [beq_iff_eq]; omega
    have HR : Hid (lookS log.data.toList ix.data.toList key.data.toList = ⟨[],k + 1,2⟩) := HK2.out _ (by rw [HST.out,if_pos e0])
    clear HK2 HK3 HST e0
    go_wp2
    go_ret3
    exact ⟨by rw [HR.out]; rfl,HB2.out.alloc (by omega) _⟩
   ·have t0 : ((kd : Int) == 0) = false := by rw [beq_eq_false_iff_ne]; omega
    by_cases e1 : kd ≠ 1 \/ nm ≠ W
    ·have HR : Hid (lookS log.data.toList ix.data.toList key.data.toList = lookGo log.data.toList ix.data.toList key.data.toList W n B (far + 1 - (k + 1)) (k + 1)) := HK3.out (by rw [HST.out,if_neg e0,if_pos e1])
     clear HK2 HK3 HST e0
     rcases (show kd ≠ 1 \/ (kd = 1 /\ nm ≠ W) from by omega) with e2 | ⟨e2,e3⟩
     ·have t1 : ((kd : Int) != 1) = true := by rw [bne_iff_ne]; omega
      clear e1 e2
      go_wp2
      go_roundw
      case rel => exact ⟨k + 1,by omega,by first | rfl | go_num,HV2.out.below ((Below.refl _ _).alloc (Nat.le_refl _) _),HR⟩
      case measure => first | (simp [intOf]; omega) | (simp [intOf])
     ·have t1 : ((kd : Int) != 1) = false := by rw [bne_eq_false_iff_eq]; omega
      have t2 : ((nm : Int) != (W : Int)) = true := by rw [bne_iff_ne]; omega
      clear e1 e2 e3
      go_wp2
      go_roundw
      case rel => exact ⟨k + 1,by omega,by first | rfl | go_num,HV2.out.below ((Below.refl _ _).alloc (Nat.le_refl _) _),HR⟩
      case measure => first | (simp [intOf]; omega) | (simp [intOf])
    ·have t1 : ((kd : Int) != 1) = false := by rw [bne_eq_false_iff_eq]; omega
     have t2 : ((nm : Int) != (W : Int)) = false := by rw [bne_eq_false_iff_eq]; omega
     have HST2 : Hid (slotStep log.data.toList key.data.toList W B k L = match itemAt (blockP log.data.toList pl B) no with
      | none => some ⟨[],0,3⟩
      | some e => if e.key = key.data.toList then some ⟨e.val,k + 1,0⟩ else none) := by
      show _ = _
      rw [HST.out,if_neg e0,if_neg e1,entStep_item]
     have hval : ∀ e,itemAt (blockP log.data.toList pl B) no = some e -> e.val.length <= 30 := fun e h => itemAt_val h
     have hVX := HV2.out.below ((Below.refl w2.heap.size w2).alloc (Nat.le_refl _) (.cells #[.int .u8 (kd : Int),.int .i64 (nm : Int),.int .i64 (pl : Int),.int .i64 (no : Int)] 175))
     have HRA : Hid _ := readAt_any log pl no B sd bt _ HLG.out (by omega) (by omega) (HH.out.below hVX.2.1 HH.out.1)
     clear HST e0 e1
     go_wp2_with fail
     refine Calls.mono HRA.out ?_
     rintro e w3 ⟨rfl,hb3⟩
     have hV3 := hVX.below hb3
     have HV3 : Hid (ViewAt w w3 log B sd bt xl n far xs xm body) := hV3
     clear hVX hb3 HRA
     have hz3 := hV3.2.2
     clear hV3 h0 h1 h2 h3 h4 h5 h6 h7 h8 h9
     generalize itemAt (blockP log.data.toList pl B) no = it at *
     rcases it with _ | en
     ·have HR : Hid (lookS log.data.toList ix.data.toList key.data.toList = ⟨[],0,3⟩) := HK2.out _ HST2.out
      clear HK2 HK3 HST2 hval
      unfold itemV
      go_wp2
      go_ret3
      exact ⟨by rw [HR.out]; rfl,HV3.out.2.1.alloc (by omega) _⟩
     ·have hvl := hval en rfl
      obtain ⟨put,ky,vl⟩ := en
      dsimp only at hvl
      unfold itemV
      have hvs : (S vl).size <= 281474976710656 := by rw [S_size]; omega
      clear hval hvl
      dsimp only
      by_cases e5 : ky = key.data.toList
      ·have t5 : ((S ky).toList == key.toList) = true := by rw [ByteArray.toList_eq,ByteArray.toList_eq,S_data,e5]; simp
       have HR : Hid (lookS log.data.toList ix.data.toList key.data.toList = ⟨vl,k + 1,0⟩) := HK2.out _ (by rw [HST2.out]; exact if_pos e5)
       clear HK2 HK3 HST2 e5
       go_wp2_with fail
       refine (clone_any (S vl) _ hvs).mono ?_
       rintro e w4 ⟨rfl,hb4⟩
       go_wp2
       go_ret3
       exact ⟨by rw [HR.out]; rfl,(HV3.out.2.1.alloc (by omega) _).trans (hb4.mono (by simp; omega))⟩
      ·have t5 : ((S ky).toList == key.toList) = false := by rw [ByteArray.toList_eq,ByteArray.toList_eq,S_data,beq_eq_false_iff_ne]; exact e5
       have HR : Hid (lookS log.data.toList ix.data.toList key.data.toList = lookGo log.data.toList ix.data.toList key.data.toList W n B (far + 1 - (k + 1)) (k + 1)) := HK3.out (by rw [HST2.out]; exact if_neg e5)
       clear HK2 HK3 HST2 e5
       go_wp2
       go_roundw
       case rel => exact ⟨k + 1,by omega,by first | rfl | go_num,HV3.out.below ((Below.refl _ _).alloc (Nat.le_refl _) _),HR⟩
       case measure => first | (simp [intOf]; omega) | (simp [intOf])
  ·have hke : k = far + 1 := by omega
   subst hke
   have HR : Hid (lookS log.data.toList ix.data.toList key.data.toList = ⟨[],far + 1,2⟩) := by
    show _ = _
    rw [HK.out,Nat.sub_self]; rfl
   clear HK
   go_wp2
   go_ret3
   exact ⟨by rw [HR.out]; rfl,hB0⟩
theorem progLook_any (log ix key : ByteArray) (w : World) (hlog : log.size <= 140737488351232) (hix : ix.size <= 140737488351232) (hkey : key.size <= 140737488351232) (hH : HalvesAt w) :
  Calls Tryz.prog 47 #[.string log,.string ix,.string key] w fun e w' => e = .returned (ansV (lookS log.data.toList ix.data.toList key.data.toList)) /\ Below w.heap.size w w' := by
 have HO : Hid _ := open_any log ix w hlog hix hH
 have HHW : Hid (HalvesAt w) := hH
 by_cases he : beginsE log.data.toList ix.data.toList = 0
 ·have hov : openV log ix = .tuple #[viewV log (hdBlk log.data.toList) (hdSeed log.data.toList) (hdBits log.data.toList) (ixLive ix.data.toList) (ixN ix.data.toList) (ixFar ix.data.toList) (ixSize ix.data.toList) (ixSum ix.data.toList) (S ((ix.data.toList.drop 20).take (10 * ixN ix.data.toList))),.int .i64 0] := by rw [openV,if_pos he]
  have HLK : Hid (∀ wx : World,HalvesAt wx -> _) := fun wx hx => viewLook_any log ix key wx hlog hix hkey hx he
  rw [hov] at HO
  clear hH he hov
  generalize S ((ix.data.toList.drop 20).take (10 * ixN ix.data.toList)) = body at *
  generalize hdBlk log.data.toList = B at *
  generalize hdSeed log.data.toList = sd at *
  generalize hdBits log.data.toList = bt at *
  generalize ixFar ix.data.toList = far at *
  generalize ixN ix.data.toList = n at *
  generalize ixLive ix.data.toList = xl at *
  generalize ixSize ix.data.toList = xs at *
  generalize ixSum ix.data.toList = xm at *
  generalize lookS log.data.toList ix.data.toList key.data.toList = an at *
  unfold viewV at HO HLK
  go_enter Tryz.func47,Tryz.ntmps47
  go_wp2_with fail
  refine Calls.mono HO.out ?_
  rintro e w1 ⟨rfl,hb1⟩
  go_wp2_with fail
  refine Calls.mono (HLK.out _ (HHW.out.below (hb1.alloc hb1.size _) HHW.out.1)) ?_
  rintro e w2 ⟨rfl,hb2⟩
  unfold ansV
  go_wp2
  go_ret3
  exact ⟨rfl,(hb1.alloc hb1.size _).trans (hb2.mono (by have := hb1.size; simp; omega))⟩
 ·have hov := openV_err (log := log) (ix := ix) rfl he
  have HL : Hid (lookS log.data.toList ix.data.toList key.data.toList = ⟨[],0,beginsE log.data.toList ix.data.toList⟩) := by
   show _ = _
   rw [lookS,if_neg he]
  rw [hov] at HO
  have ht : (beginsE log.data.toList ix.data.toList != 0) = true := by rw [bne_iff_ne]; exact he
  clear hH he hov
  generalize beginsE log.data.toList ix.data.toList = er at *
  go_enter Tryz.func47,Tryz.ntmps47
  go_wp2_with fail
  refine Calls.mono HO.out ?_
  rintro e w1 ⟨rfl,hb1⟩
  go_wp2
  go_ret3
  exact ⟨by rw [HL.out]; rfl,hb1.alloc hb1.size _⟩
end Go.Proofs.YtdhgebdbiehchaaGreatDoor
