/- On the way: KpTells, KpKept, KpKept2. -/
import Derived.Test.YtdhgebdbiehchaaGreatDoorB45
import Derived.Test.YtdhgebdbiehchaaGreatDoorB46
import Derived.Test.YtdhgebdbiehchaaGreatDoorB42
import Derived.Test.YtdhgebdbiehchaaGreatDoorB40
import Derived.Test.YtdhgebdbiehchaaGreatDoorB37
import Derived.Test.YtdhgebdbiehchaaGreatDoorB30
namespace Go.Proofs.YtdhgebdbiehchaaGreatDoor
open Go.RowKit Go.Maps
set_option linter.unusedSimpArgs false
set_option linter.unusedVariables false
set_option maxRecDepth 100000
set_option maxHeartbeats 3200000
theorem kdk_ok {blk seed bits : Nat} {bs : List (List Ent)} {sy : Nat} {f2 : Option Fl} {ws : List Ent} {c : Nat} (h : KOk blk seed bits bs f2 ws c) (hc : c <= 600) (hsy : sy <= (headL blk seed bits ++ blocksB bs).length) (hs2 : ∀ f,f2 = some f -> f.sync <= f.text.length) : DkOk (kdk blk seed bits bs sy f2 ws) := by
 have h1 := h.text
 have h2 := h.idx
 refine ⟨Nat.le_refl _,?_,?_,?_,(fun e => by cases e),h.hws,h.most,?_⟩
 ·rw [kdk_used]
  show _ <= 100000
  omega
 ·intro i f hf
  unfold Dk.file at hf
  split at hf
  ·cases hf; exact hsy
  ·split at hf
   ·cases hf
   ·split at hf
    ·exact hs2 f hf
    ·cases hf
 ·intro b e
  cases e
  exact ⟨rfl,h.hblk.1,h.hblk.2,rfl⟩
 ·intro b e
  cases e
  exact h.size
theorem far_bytes {ix : List UInt8} (h : 24 <= ix.length) : (ix.getD 6 0).toNat + 256 * (ix.getD 7 0).toNat = ixFar ix := by
 unfold ixFar
 have g6 : ix.getD 6 0 = ix[6] := by rw [List.getD_eq_getElem?_getD,List.getElem?_eq_getElem (by omega)]; rfl
 have g7 : ix.getD 7 0 = ix[7] := by rw [List.getD_eq_getElem?_getD,List.getElem?_eq_getElem (by omega)]; rfl
 have e : (ix.drop 6).take 2 = [ix.getD 6 0,ix.getD 7 0] := by
  have : ix.drop 6 = ix[6] :: ix[7] :: ix.drop 8 := by rw [List.drop_eq_getElem_cons (show 6 < ix.length by omega),List.drop_eq_getElem_cons (show 6 + 1 < ix.length by omega)]
  rw [this,g6,g7]
  rfl
 rw [e]
 simp [highL]
theorem ktells_any (E : Sent) (n : Nat) (G : Nat -> Prop) (bx bh blk seed bits : Nat) (bs : List (List Ent)) (sy : Nat) (f2 : Option Fl) (L : List Sd) (c : Nat) (w : World) (h : KAt E n G bx bh (kdk blk seed bits bs sy f2 []) L w) (hK : KOk blk seed bits bs f2 [] c) (hc : c <= 600) (hok : DkOk (kdk blk seed bits bs sy f2 []))
  (hsy : sy <= (headL blk seed bits ++ blocksB bs).length) (hL : L.map kv = (heldS bs.flatten).map kv) (hLn : L.length <= 1000) :
  Calls Tryz.prog 18 #[.pointer (some ⟨bx,0,none⟩),.pointer (some ⟨bh,0,none⟩)] w fun e w' => e = .returned (.bool true) /\ ∃ G' ix,KAt E n G' bx bh (kdk blk seed bits bs sy (some ⟨ix,ix.length⟩) []) L w' /\ indexS (headL blk seed bits ++ blocksB bs) = some ix /\ ix.length <= 26000 /\ Below n w w' := by
 obtain ⟨ix,hix,hil,hi24⟩ := k_index hK (by omega)
 obtain ⟨hbd,hK2⟩ := k_build (sy := sy) hK hc hix hil
 have hok2 : DkOk (kdk blk seed bits bs sy (some ⟨ix,ix.length⟩) []) := kdk_ok hK2 hc hsy (fun f e => by cases e; exact Nat.le_refl _)
 have htl := hK.text
 have HBD : Hid (Calls Tryz.prog 27 #[.pointer (some ⟨bx,0,none⟩)] w fun e w' => e = .returned (.int .i64 0) /\ (∃ G',KAt E n G' bx bh (kdk blk seed bits bs sy (some ⟨ix,ix.length⟩) []) L w') /\ Below n w w') := by
  obtain ⟨q,hq⟩ := h.st
  refine (build_any E n G bx _ q w h.env h.gs hq hok).mono ?_
  rw [hbd]
  rintro e w' ⟨rfl,hd⟩
  obtain ⟨k1,k2⟩ := h.store hd
  exact ⟨rfl,⟨_,k1⟩,k2⟩
 have HFL : Hid (∀ (G1 : Nat -> Prop) (w1 : World),KAt E n G1 bx bh (kdk blk seed bits bs sy (some ⟨ix,ix.length⟩) []) L w1 -> Calls Tryz.prog 19 #[.pointer (some ⟨bx,0,none⟩),.string ⟨#[108,111,103]⟩] w1 fun e w' => e = .returned (.tuple #[.string (S (headL blk seed bits ++ blocksB bs)),.int .i64 0]) /\ Below w1.heap.size w1 w') := fun G1 w1 hk => by
  obtain ⟨q,hq⟩ := hk.st
  exact fileS_any E n G1 bx _ q ⟨#[108,111,103]⟩ w1 hk.env hq (by decide)
 have HFI : Hid (∀ (G1 : Nat -> Prop) (w1 : World),KAt E n G1 bx bh (kdk blk seed bits bs sy (some ⟨ix,ix.length⟩) []) L w1 -> Calls Tryz.prog 19 #[.pointer (some ⟨bx,0,none⟩),.string ⟨#[105,110,100,101,120]⟩] w1 fun e w' => e = .returned (.tuple #[.string (S ix),.int .i64 0]) /\ Below w1.heap.size w1 w') := fun G1 w1 hk => by
  obtain ⟨q,hq⟩ := hk.st
  exact fileS_any E n G1 bx _ q ⟨#[105,110,100,101,120]⟩ w1 hk.env hq (by decide)
 have HFN : Hid (∀ (G1 : Nat -> Prop) (w1 : World),KAt E n G1 bx bh (kdk blk seed bits bs sy (some ⟨ix,ix.length⟩) []) L w1 -> Calls Tryz.prog 19 #[.pointer (some ⟨bx,0,none⟩),.string ⟨#[110,101,119]⟩] w1 fun e w' => e = .returned (.tuple #[.string (S []),.int .i64 2]) /\ Below w1.heap.size w1 w') := fun G1 w1 hk => by
  obtain ⟨q,hq⟩ := hk.st
  exact fileS_any E n G1 bx _ q ⟨#[110,101,119]⟩ w1 hk.env hq (by decide)
 have HGE : Hid (∀ (G1 : Nat -> Prop) (w1 : World) (k : List UInt8),k.length <= 100 -> KAt E n G1 bx bh (kdk blk seed bits bs sy (some ⟨ix,ix.length⟩) []) L w1 -> Calls Tryz.prog 46 #[.pointer (some ⟨bx,0,none⟩),.string (S k)] w1 fun e w' => e = .returned (.tuple #[.string (S ((findKv k L).getD [])),.int .i64 (codeK (findKv k L))]) /\ Below w1.heap.size w1 w') := fun G1 w1 k hkl hk => by
  obtain ⟨q,hq⟩ := hk.st
  refine (get_any E n G1 bx _ q (S k) w1 hk.env hq hok2 (by rw [S_size]; omega)).mono ?_
  obtain ⟨m,he,_,_⟩ := k_look hK hix k
  rw [show (S k).data.toList = k from rfl,k_get,he,<- find_alike hL]
  exact fun e w' h => h
 have HLO : Hid (∀ (G1 : Nat -> Prop) (w1 : World) (k : List UInt8),k.length <= 100 -> KAt E n G1 bx bh (kdk blk seed bits bs sy (some ⟨ix,ix.length⟩) []) L w1 -> Calls Tryz.prog 47 #[.string (S (headL blk seed bits ++ blocksB bs)),.string (S ix),.string (S k)] w1 fun e w' => ∃ m : Nat,e = .returned (.tuple #[.string (S ((findKv k L).getD [])),.int .i64 (m : Int),.int .i64 (codeK (findKv k L))]) /\ (1 <= m /\ m <= ixFar ix + 1) /\ Below w1.heap.size w1 w') := fun G1 w1 k hkl hk => by
  refine (progLook_any (S (headL blk seed bits ++ blocksB bs)) (S ix) (S k) w1 (by rw [S_size]; omega) (by rw [S_size]; omega) (by rw [S_size]; omega) hk.env.env.halves).mono ?_
  obtain ⟨m,he,h1,h2⟩ := k_look hK hix k
  rw [show (S (headL blk seed bits ++ blocksB bs)).data.toList = headL blk seed bits ++ blocksB bs from rfl,show (S ix).data.toList = ix from rfl,show (S k).data.toList = k from rfl,he,<- find_alike hL]
  rintro e w' ⟨rfl,hb⟩
  exact ⟨m,rfl,⟨h1,h2⟩,hb⟩
 have HFD : Hid (∀ (G1 : Nat -> Prop) (w1 : World) (k : List UInt8),KAt E n G1 bx bh (kdk blk seed bits bs sy (some ⟨ix,ix.length⟩) []) L w1 -> Calls Tryz.prog 45 #[.pointer (some ⟨bh,0,none⟩),.string (S k)] w1 fun e w' => e = .returned (.tuple #[.string (S ((findKv k L).getD [])),.bool (findKv k L).isSome]) /\ w' = w1) := fun G1 w1 k hk => by
  obtain ⟨v,h1,_,_⟩ := hk.held
  exact kfind_any n bh v L k w1 h1 hLn
 have HAL : Hid (∀ (G1 : Nat -> Prop) (w1 : World),KAt E n G1 bx bh (kdk blk seed bits bs sy (some ⟨ix,ix.length⟩) []) L w1 -> Calls Tryz.prog 48 #[.pointer (some ⟨bx,0,none⟩),.pointer none] w1 fun e w' => ∃ v,e = .returned (.tuple #[v,.int .i64 0]) /\ w'.ownsRow w1.heap.size 54 2 v (liveL (sdsB 14 bs)).length (cellsI (liveL (sdsB 14 bs))) /\ Below w1.heap.size w1 w') := fun G1 w1 hk => by
  obtain ⟨q,hq⟩ := hk.st
  refine (all_any E n G1 bx _ q (.pointer none) false w1 hk.env hq hok2 (.inl ⟨rfl,rfl⟩)).mono ?_
  rw [k_all hK2 hix]
  exact fun e w' h => h
 have hA : (liveL (sdsB 14 bs)).length <= 1000 := by
  have h1 := liveL_le (sdsB 14 bs)
  have h2 := sds_length 14 bs
  have h3 := hK.count
  simp at h3
  rw [List.length_flatten] at h2
  omega
 have hsame : sameK (liveL (sdsB 14 bs)) L := (held_said bs).trans hL.symm
 have hfar := far_bytes hi24
 have b6l : (ix.getD 6 0).toNat < 256 := (ix.getD 6 0).toNat_lt
 have b7l : (ix.getD 7 0).toNat < 256 := (ix.getD 7 0).toNat_lt
 have i6 : ∀ wx : World,(Instr.index 9 (.string (S ix)) (.int .i64 6)).run Tryz.prog wx = .ok (.int .u8 ((ix.getD 6 0).toNat : Int)) wx := fun wx => by
  rw [idx_run (S ix) 6 (by rw [S_size]; omega) 6 rfl wx,show (S ix)[6]'(by rw [S_size]; omega) = ix.getD 6 0 by rw [List.getD_eq_getElem?_getD,List.getElem?_eq_getElem (by omega)]; rfl]
 have i7 : ∀ wx : World,(Instr.index 9 (.string (S ix)) (.int .i64 7)).run Tryz.prog wx = .ok (.int .u8 ((ix.getD 7 0).toNat : Int)) wx := fun wx => by
  rw [idx_run (S ix) 7 (by rw [S_size]; omega) 7 rfl wx,show (S ix)[7]'(by rw [S_size]; omega) = ix.getD 7 0 by rw [List.getD_eq_getElem?_getD,List.getElem?_eq_getElem (by omega)]; rfl]
 generalize (ix.getD 6 0).toNat = b6 at *
 generalize (ix.getD 7 0).toNat = b7 at *
 have hf65 : ixFar ix <= 65535 := by omega
 have HIX : Hid (indexS (headL blk seed bits ++ blocksB bs) = some ix) := hix
 have zi : (S ix).size = ix.length := S_size _
 generalize hd2 : kdk blk seed bits bs sy (some ⟨ix,ix.length⟩) [] = d2 at *
 generalize headL blk seed bits ++ blocksB bs = T at *
 generalize liveL (sdsB 14 bs) = A at *
 have HDD : Hid (kdk blk seed bits bs sy (some ⟨ix,ix.length⟩) [] = d2) := hd2
 clear hbd hK2 hok2 hK hok hsy hL hd2 h
 go_enter Tryz.func18,Tryz.ntmps18
 go_wp2_with (first | (go_at_call 27; refine HBD.out.mono ?_; rintro e w1 ⟨rfl,⟨G1,hk1⟩,hb1⟩; have HK1 : Hid (KAt E n G1 bx bh d2 L w1) := hk1; have HB1 : Hid (Below n w w1) := hb1; clear hk1 hb1))
 refine (HFL.out G1 w1 HK1.out).mono ?_
 rintro e w2 ⟨rfl,hb2⟩
 have HK2 : Hid (KAt E n G1 bx bh d2 L w2) := HK1.out.below hb2
 have HB2 : Hid (Below n w w2) := HB1.out.trans (hb2.mono HK1.out.env.le)
 clear hb2
 go_wp2_with fail
 refine (HFI.out G1 w2 HK2.out).mono ?_
 rintro e w3 ⟨rfl,hb3⟩
 have HK3 : Hid (KAt E n G1 bx bh d2 L w3) := HK2.out.below hb3
 have HB3 : Hid (Below n w w3) := HB2.out.trans (hb3.mono HK2.out.env.le)
 clear hb3
 go_wp2_with fail
 refine (HFN.out G1 w3 HK3.out).mono ?_
 rintro e w4 ⟨rfl,hb4⟩
 have HK4 : Hid (KAt E n G1 bx bh d2 L w4) := HK3.out.below hb4
 have HB4 : Hid (Below n w w4) := HB3.out.trans (hb4.mono HK3.out.env.le)
 clear hb4
 go_wp2_with fail
 have HW4 : Hid (∀ wx : World,Below w4.heap.size w4 wx -> KAt E n G1 bx bh d2 L wx /\ Below n w wx) := fun wx hb => ⟨HK4.out.below hb,HB4.out.trans (hb.mono HK4.out.env.le)⟩
 go_region
 all_goals
  go_wp2_with fail
  go_loopw [12] (fun i wr => ∃ j : Nat,j <= 61 /\ i = .int .i64 j /\ Below w4.heap.size w4 wr) (fun i _ => 61 - (intOf i).toNat)
  case atStart => exact ⟨0,by omega,rfl,(Below.refl _ _).drew⟩
  case round =>
   obtain ⟨j,hj,rfl,hb⟩ := hrel
   have HB : Hid (Below w4.heap.size w4 wr) := hb
   clear hb
   by_cases hlt : j <= 60
   ·have HDG : Hid (∀ wx : World,Calls Tryz.prog 44 #[.int .i64 (j : Int)] wx fun e w' => e = .returned (.string (S (digitsK j))) /\ Below wx.heap.size wx w') := fun wx => digits_any j wx (by omega)
    have ek : S (keyK j) = ⟨#[107]⟩ ++ S (digitsK j) := by rw [show (⟨#[107]⟩ : ByteArray) = S [107] from rfl,S_append]; rfl
    have kl : (keyK j).length <= 100 := by
     have := digitsK_len j
     unfold keyK
     simp
     omega
    have HFDk : Hid (∀ wx : World,Below w4.heap.size w4 wx -> Calls Tryz.prog 45 #[.pointer (some ⟨bh,0,none⟩),.string (⟨#[107]⟩ ++ S (digitsK j))] wx fun e w' => e = .returned (.tuple #[.string (S ((findKv (keyK j) L).getD [])),.bool (findKv (keyK j) L).isSome]) /\ w' = wx) := fun wx hb => by rw [<- ek]; exact HFD.out G1 wx (keyK j) (HW4.out wx hb).1
    have HGEk : Hid (∀ wx : World,Below w4.heap.size w4 wx -> Calls Tryz.prog 46 #[.pointer (some ⟨bx,0,none⟩),.string (⟨#[107]⟩ ++ S (digitsK j))] wx fun e w' => e = .returned (.tuple #[.string (S ((findKv (keyK j) L).getD [])),.int .i64 (codeK (findKv (keyK j) L))]) /\ Below wx.heap.size wx w') := fun wx hb => by rw [<- ek]; exact HGE.out G1 wx (keyK j) kl (HW4.out wx hb).1
    have HLOk : Hid (∀ wx : World,Below w4.heap.size w4 wx -> Calls Tryz.prog 47 #[.string (S T),.string (S ix),.string (⟨#[107]⟩ ++ S (digitsK j))] wx fun e w' => ∃ m : Nat,e = .returned (.tuple #[.string (S ((findKv (keyK j) L).getD [])),.int .i64 (m : Int),.int .i64 (codeK (findKv (keyK j) L))]) /\ (1 <= m /\ m <= ixFar ix + 1) /\ Below wx.heap.size wx w') := fun wx hb => by rw [<- ek]; exact HLO.out G1 wx (keyK j) kl (HW4.out wx hb).1
    have zd : (S (digitsK j)).size <= 2 := by rw [S_size]; exact (digitsK_len j).2
    clear ek kl
    generalize findKv (keyK j) L = o at *
    generalize S (digitsK j) = D at *
    cases o with
    | none =>
     have hcmp : ((S ((none : Option (List UInt8)).getD [])).toList == (S ((none : Option (List UInt8)).getD [])).toList) = true := by simp
     generalize S ((none : Option (List UInt8)).getD []) = V at *
     have HGE2 : Hid (∀ wx : World,Below w4.heap.size w4 wx -> Calls Tryz.prog 46 #[.pointer (some ⟨bx,0,none⟩),.string (⟨#[107]⟩ ++ D)] wx fun e w' => e = .returned (.tuple #[.string V,.int .i64 2]) /\ Below wx.heap.size wx w') := HGEk.out
     have HLO2 : Hid (∀ wx : World,Below w4.heap.size w4 wx -> Calls Tryz.prog 47 #[.string (S T),.string (S ix),.string (⟨#[107]⟩ ++ D)] wx fun e w' => ∃ m : Nat,e = .returned (.tuple #[.string V,.int .i64 (m : Int),.int .i64 2]) /\ (1 <= m /\ m <= ixFar ix + 1) /\ Below wx.heap.size wx w') := HLOk.out
     have HFD2 : Hid (∀ wx : World,Below w4.heap.size w4 wx -> Calls Tryz.prog 45 #[.pointer (some ⟨bh,0,none⟩),.string (⟨#[107]⟩ ++ D)] wx fun e w' => e = .returned (.tuple #[.string V,.bool false]) /\ w' = wx) := HFDk.out
     clear HGEk HLOk HFDk
     go_wp2_with (first | (go_at_call 44; refine (HDG.out _).mono ?_; rintro e w5 ⟨rfl,hb5⟩; have HB5 : Hid (Below w4.heap.size w4 w5) := HB.out.trans (hb5.mono HB.out.size); clear hb5) | (go_at_call 45; refine (HFD2.out w5 HB5.out).mono ?_; rintro e w5 ⟨rfl,rfl⟩) | (go_at_call 46; refine (HGE2.out w5 HB5.out).mono ?_; rintro e w6 ⟨rfl,hb6⟩; have HB6 : Hid (Below w4.heap.size w4 w6) := HB5.out.trans (hb6.mono HB5.out.size); clear hb6) | (go_at_call 47; refine (HLO2.out w6 HB6.out).mono ?_; rintro e w7 ⟨m,rfl,⟨hm1,hm2⟩,hb7⟩; have hm3 : (m : Int) <= (b6 : Int) + 256 * (b7 : Int) + 1 := (by omega); have hm4 : (1 : Int) <= (m : Int) := (by omega); have HB7 : Hid (Below w4.heap.size w4 w7) := HB6.out.trans (hb7.mono HB6.out.size); clear hb7))
     go_roundw
     case rel => exact ⟨j + 1,by omega,by go_num,HB7.out⟩
     case measure => simp [intOf]; omega
    | some vv =>
     have hcmp : ((S ((some vv).getD [])).toList == (S ((some vv).getD [])).toList) = true := by simp
     generalize S ((some vv).getD []) = V at *
     have HGE2 : Hid (∀ wx : World,Below w4.heap.size w4 wx -> Calls Tryz.prog 46 #[.pointer (some ⟨bx,0,none⟩),.string (⟨#[107]⟩ ++ D)] wx fun e w' => e = .returned (.tuple #[.string V,.int .i64 0]) /\ Below wx.heap.size wx w') := HGEk.out
     have HLO2 : Hid (∀ wx : World,Below w4.heap.size w4 wx -> Calls Tryz.prog 47 #[.string (S T),.string (S ix),.string (⟨#[107]⟩ ++ D)] wx fun e w' => ∃ m : Nat,e = .returned (.tuple #[.string V,.int .i64 (m : Int),.int .i64 0]) /\ (1 <= m /\ m <= ixFar ix + 1) /\ Below wx.heap.size wx w') := HLOk.out
     have HFD2 : Hid (∀ wx : World,Below w4.heap.size w4 wx -> Calls Tryz.prog 45 #[.pointer (some ⟨bh,0,none⟩),.string (⟨#[107]⟩ ++ D)] wx fun e w' => e = .returned (.tuple #[.string V,.bool true]) /\ w' = wx) := HFDk.out
     clear HGEk HLOk HFDk
     go_wp2_with (first | (go_at_call 44; refine (HDG.out _).mono ?_; rintro e w5 ⟨rfl,hb5⟩; have HB5 : Hid (Below w4.heap.size w4 w5) := HB.out.trans (hb5.mono HB.out.size); clear hb5) | (go_at_call 45; refine (HFD2.out w5 HB5.out).mono ?_; rintro e w5 ⟨rfl,rfl⟩) | (go_at_call 46; refine (HGE2.out w5 HB5.out).mono ?_; rintro e w6 ⟨rfl,hb6⟩; have HB6 : Hid (Below w4.heap.size w4 w6) := HB5.out.trans (hb6.mono HB5.out.size); clear hb6) | (go_at_call 47; refine (HLO2.out w6 HB6.out).mono ?_; rintro e w7 ⟨m,rfl,⟨hm1,hm2⟩,hb7⟩; have hm3 : (m : Int) <= (b6 : Int) + 256 * (b7 : Int) + 1 := (by omega); have hm4 : (1 : Int) <= (m : Int) := (by omega); have HB7 : Hid (Below w4.heap.size w4 w7) := HB6.out.trans (hb7.mono HB6.out.size); clear hb7))
     go_roundw
     case rel => exact ⟨j + 1,by omega,by go_num,HB7.out⟩
     case measure => simp [intOf]; omega
   ·have HALk := HAL.out G1 wr (HW4.out wr HB.out).1
    obtain ⟨v,hh,hv1,hv2⟩ := (HW4.out wr HB.out).1.held
    have HSM : Hid (∀ (wx : World) (u : Value) (bb : Nat),Below wr.heap.size wr wx -> wx.ownsRow bb 54 2 u A.length (cellsI A) -> Calls Tryz.prog 49 #[u,v] wx fun e w' => e = .returned (.bool true) /\ Below wx.heap.size wx w') := fun wx u bb hb hr => ksame_any bb n u v A L wx hr (own_chg hh.row (Chg.of_below (F := fun _ => False) hb) (fun _ _ h => h)) (by omega) (by omega) hsame
    have HBO : Hid (∀ wx : World,Below wr.heap.size wr wx -> wx.cell? ⟨bh,0,none⟩ = some v) := fun wx hb => (hh.box.below hb hh.box.lt).cell (j := 0) rfl
    clear hh hv1 hv2
    go_wp2_with (first | (go_at_call 48; refine HALk.mono ?_; rintro e w5 ⟨u,rfl,hr5,hb5⟩; have c5 := HBO.out w5 hb5; have HS5 := HSM.out w5 u _ hb5 hr5; have HB5 : Hid (Below w4.heap.size w4 w5) := HB.out.trans (hb5.mono HB.out.size); clear hb5 hr5) | (go_at_call 49; refine HS5.mono ?_; rintro e w6 ⟨rfl,hb6⟩; have HB6 : Hid (Below w4.heap.size w4 w6) := HB5.out.trans (hb6.mono HB5.out.size); clear hb6))
    go_ret
    exact ⟨rfl,G1,ix,by rw [HDD.out]; exact (HW4.out w6 HB6.out).1,HIX.out,hil,(HW4.out w6 HB6.out).2⟩
structure KSt (E : Sent) (n bx bh blk seed bits c : Nat) (es : List Ent) (G : Nat -> Prop) (bs : List (List Ent)) (sy : Nat) (f2 : Option Fl) (ws : List Ent) (L : List Sd) (w : World) : Prop where
 at' : KAt E n G bx bh (kdk blk seed bits bs sy f2 ws) L w
 ok : KOk blk seed bits bs f2 ws c
 sync : sy <= (headL blk seed bits ++ blocksB bs).length
 sync2 : ∀ f,f2 = some f -> f.sync <= f.text.length
 said : bs.flatten ++ ws = es
 alike : L.map kv = (heldS es).map kv
 few : L.length <= c
def KS (E : Sent) (n bx bh blk seed bits c : Nat) (es : List Ent) (w : World) : Prop := ∃ G bs sy f2 ws L,KSt E n bx bh blk seed bits c es G bs sy f2 ws L w
def KF (E : Sent) (n bx bh blk seed bits c : Nat) (es : List Ent) (w : World) : Prop := ∃ G bs sy f2 L,KSt E n bx bh blk seed bits c es G bs sy f2 [] L w
theorem but_alike {k : List UInt8} {L M : List Sd} (h : L.map kv = M.map kv) : (butK k L).map kv = (M.filter (fun y => decide (y.key ≠ k))).map kv := by
 have e : ∀ l : List Sd,(l.filter (fun y => decide (y.key ≠ k))).map kv = (l.map kv).filter (fun q => decide (q.1 ≠ k)) := fun l => by
  rw [List.filter_map]; rfl
 unfold butK
 rw [e,e,h]
theorem next_alike {es : List Ent} {e : Ent} {L : List Sd} (h : L.map kv = (heldS es).map kv) : (butK e.key L ++ (if e.put = true then [entS e] else [])).map kv = (heldS (es ++ [e])).map kv := by
 rw [heldS_snoc,List.map_append,List.map_append,but_alike h]
theorem kentry_any (E : Sent) (n bx bh blk seed bits c : Nat) (es : List Ent) (a b : Int) (w : World) (h : KS E n bx bh blk seed bits c es w) (hc : c <= 500) (ha : IntR a) (hb : IntR b) :
  Calls Tryz.prog 15 #[.pointer (some ⟨bx,0,none⟩),.pointer (some ⟨bh,0,none⟩),.int .i64 a,.int .i64 b] w fun e w' => e = .returned (.bool true) /\ KS E n bx bh blk seed bits (c + 1) (es ++ [entK a b]) w' /\ Below n w w' := by
 obtain ⟨G,bs,sy,f2,ws,L,h⟩ := h
 have hok : DkOk (kdk blk seed bits bs sy f2 ws) := kdk_ok h.ok (by omega) h.sync h.sync2
 obtain ⟨bs',ws',e1,e2,e3,e4⟩ := k_add (sy := sy) h.ok (by omega) (entK_ok a b)
 have hL := h.few
 have hb1 : ∀ k,(butK k L).length <= L.length := fun k => List.length_filter_le _ _
 have hsy : sy <= (headL blk seed bits ++ blocksB bs').length := by
  have := h.sync
  rw [List.length_append] at this ⊢
  omega
 have hfin : ∀ (G' : Nat -> Prop) (w' : World),KAt E n G' bx bh (kdk blk seed bits bs' sy f2 ws') (butK (entK a b).key L ++ (if (entK a b).put = true then [entS (entK a b)] else [])) w' -> KS E n bx bh blk seed bits (c + 1) (es ++ [entK a b]) w' := fun G' w' hk => by
  refine ⟨G',bs',sy,f2,ws',_,hk,e2,hsy,h.sync2,by rw [e4,h.said],next_alike h.alike,?_⟩
  rw [List.length_append]
  have := hb1 (entK a b).key
  split <;> simp <;> omega
 by_cases hp : pickK b 4 = 0
 ·have he : entK a b = ⟨false,keyR a,[]⟩ := by unfold entK; rw [if_pos hp]
  rw [he] at e1 hfin ⊢
  refine (kentry_del E n G bx bh _ L a b w h.at' hok (by omega) ha hb hp (by rw [e1])).mono ?_
  rw [e1]
  rintro e w' ⟨rfl,G',hk,hbw⟩
  exact ⟨rfl,hfin G' w' (by rw [if_neg (by simp),List.append_nil]; exact hk),hbw⟩
 ·have he : entK a b = ⟨true,keyR a,valueK (b.tdiv 4)⟩ := by unfold entK; rw [if_neg hp]
  rw [he] at e1 hfin ⊢
  refine (kentry_put E n G bx bh _ L a b w h.at' hok (by omega) ha hb hp (by rw [e1])).mono ?_
  rw [e1]
  rintro e w' ⟨rfl,G',hk,hbw⟩
  exact ⟨rfl,hfin G' w' (by rw [if_pos rfl]; exact hk),hbw⟩
theorem kflush_any (E : Sent) (n bx bh blk seed bits c : Nat) (es : List Ent) (w : World) (h : KS E n bx bh blk seed bits c es w) (hc : c <= 600) :
  Calls Tryz.prog 17 #[.pointer (some ⟨bx,0,none⟩)] w fun e w' => e = .returned (.int .i64 0) /\ KF E n bx bh blk seed bits c es w' /\ Below n w w' := by
 obtain ⟨G,bs,sy,f2,ws,L,h⟩ := h
 have hok : DkOk (kdk blk seed bits bs sy f2 ws) := kdk_ok h.ok (by omega) h.sync h.sync2
 obtain ⟨bs',sy',e1,e2,e3,e4⟩ := k_flush (sy := sy) h.ok (by omega)
 obtain ⟨q,hq⟩ := h.at'.st
 refine (flush_any E n G bx _ q w h.at'.env h.at'.gs hq hok).mono ?_
 rw [e1]
 rintro e w' ⟨rfl,hd⟩
 obtain ⟨k1,k2⟩ := h.at'.store hd
 exact ⟨rfl,⟨_,bs',sy',f2,L,k1,e2,e3,h.sync2,by rw [List.append_nil,e4,h.said],h.alike,h.few⟩,k2⟩
def KT (E : Sent) (n bx bh blk seed bits c : Nat) (es : List Ent) (w : World) : Prop := ∃ G bs sy ix L,KSt E n bx bh blk seed bits c es G bs sy (some ⟨ix,ix.length⟩) [] L w /\ indexS (headL blk seed bits ++ blocksB bs) = some ix /\ ix.length <= 26000
theorem ktell_any (E : Sent) (n bx bh blk seed bits c : Nat) (es : List Ent) (w : World) (h : KF E n bx bh blk seed bits c es w) (hc : c <= 600) :
  Calls Tryz.prog 18 #[.pointer (some ⟨bx,0,none⟩),.pointer (some ⟨bh,0,none⟩)] w fun e w' => e = .returned (.bool true) /\ KT E n bx bh blk seed bits c es w' /\ Below n w w' := by
 obtain ⟨G,bs,sy,f2,L,h⟩ := h
 have hok : DkOk (kdk blk seed bits bs sy f2 []) := kdk_ok h.ok (by omega) h.sync h.sync2
 have hsd := h.said
 rw [List.append_nil] at hsd
 have := h.few
 refine (ktells_any E n G bx bh blk seed bits bs sy f2 L c w h.at' h.ok hc hok h.sync (by rw [hsd]; exact h.alike) (by omega)).mono ?_
 rintro e w' ⟨rfl,G',ix,k1,k2,k3,k4⟩
 exact ⟨rfl,⟨G',bs,sy,ix,L,⟨k1,⟨h.ok.hblk,h.ok.hseed,h.ok.hbits,h.ok.hbs,h.ok.hws,h.ok.most,h.ok.size,h.ok.count,k3⟩,h.sync,fun f e => by cases e; exact Nat.le_refl _,h.said,h.alike,h.few⟩,k2,k3⟩,k4⟩
theorem KT.ks {E : Sent} {n bx bh blk seed bits c : Nat} {es : List Ent} {w : World} (h : KT E n bx bh blk seed bits c es w) : KS E n bx bh blk seed bits c es w := by
 obtain ⟨G,bs,sy,ix,L,h,_,_⟩ := h
 exact ⟨G,bs,sy,_,[],L,h⟩
theorem tdiv60_range {b : Int} (h : IntR b) : IntR (b.tdiv 60) := by
 obtain ⟨h1,h2⟩ := h
 by_cases h0 : 0 <= b
 ·rw [Int.tdiv_eq_ediv_of_nonneg h0]
  constructor <;> omega
 ·obtain ⟨c,rfl⟩ : ∃ c : Int,b = -c := ⟨-b,by omega⟩
  rw [Int.neg_tdiv,Int.tdiv_eq_ediv_of_nonneg (by omega)]
  constructor <;> omega
theorem KS.drew {E : Sent} {n bx bh blk seed bits c : Nat} {es : List Ent} {w : World} (h : KS E n bx bh blk seed bits c es w) : KS E n bx bh blk seed bits c es w.drew := by
 obtain ⟨G,bs,sy,f2,ws,L,h⟩ := h
 exact ⟨G,bs,sy,f2,ws,L,h.at'.below (Below.refl _ _).drew,h.ok,h.sync,h.sync2,h.said,h.alike,h.few⟩
theorem KSt.below {E : Sent} {n bx bh blk seed bits c : Nat} {es : List Ent} {G : Nat -> Prop} {bs : List (List Ent)} {sy : Nat} {f2 : Option Fl} {ws : List Ent} {L : List Sd} {w w' : World} (h : KSt E n bx bh blk seed bits c es G bs sy f2 ws L w) (hb : Below w.heap.size w w') : KSt E n bx bh blk seed bits c es G bs sy f2 ws L w' := ⟨h.at'.below hb,h.ok,h.sync,h.sync2,h.said,h.alike,h.few⟩
def KE (E : Sent) (n bx : Nat) (T ix : List UInt8) (w : World) : Prop := (∃ (G : Nat -> Prop) (q : StP) (d : Dk),Env0 n w E /\ StoreAt w G bx d q /\ d.fileR [108,111,103] = (T,0) /\ d.fileR [105,110,100,101,120] = (ix,0)) /\ indexS T = some ix /\ T.length <= 100000
theorem KT.ke {E : Sent} {n bx bh blk seed bits c : Nat} {es : List Ent} {w : World} (h : KT E n bx bh blk seed bits c es w) (hc : c <= 600) : ∃ T ix,KE E n bx T ix w := by
 obtain ⟨G,bs,sy,ix,L,h,hix,_⟩ := h
 obtain ⟨q,hq⟩ := h.at'.st
 have := h.ok.text
 exact ⟨headL blk seed bits ++ blocksB bs,ix,⟨G,q,_,h.at'.env,hq,rfl,rfl⟩,hix,by omega⟩
theorem KE.below {E : Sent} {n bx : Nat} {T ix : List UInt8} {w w' : World} (h : KE E n bx T ix w) (hb : Below w.heap.size w w') : KE E n bx T ix w' := by
 obtain ⟨⟨G,q,d,h1,h2,h3,h4⟩,h5,h6⟩ := h
 exact ⟨⟨G,q,d,h1.below (hb.mono h1.le),h2.below hb,h3,h4⟩,h5,h6⟩
theorem KE.log {E : Sent} {n bx : Nat} {T ix : List UInt8} {w : World} (h : KE E n bx T ix w) : Calls Tryz.prog 19 #[.pointer (some ⟨bx,0,none⟩),.string ⟨#[108,111,103]⟩] w fun e w' => e = .returned (.tuple #[.string (S T),.int .i64 0]) /\ KE E n bx T ix w' /\ Below w.heap.size w w' := by
 have h0 := h
 obtain ⟨⟨G,q,d,h1,h2,h3,h4⟩,h5,h6⟩ := h
 refine (fileS_any E n G bx d q ⟨#[108,111,103]⟩ w h1 h2 (by decide)).mono ?_
 rw [show (⟨#[108,111,103]⟩ : ByteArray).data.toList = [108,111,103] from rfl,h3]
 rintro e w' ⟨rfl,hb⟩
 exact ⟨rfl,h0.below hb,hb⟩
theorem KE.idx {E : Sent} {n bx : Nat} {T ix : List UInt8} {w : World} (h : KE E n bx T ix w) : Calls Tryz.prog 19 #[.pointer (some ⟨bx,0,none⟩),.string ⟨#[105,110,100,101,120]⟩] w fun e w' => e = .returned (.tuple #[.string (S ix),.int .i64 0]) /\ KE E n bx T ix w' /\ Below w.heap.size w w' := by
 have h0 := h
 obtain ⟨⟨G,q,d,h1,h2,h3,h4⟩,h5,h6⟩ := h
 refine (fileS_any E n G bx d q ⟨#[105,110,100,101,120]⟩ w h1 h2 (by decide)).mono ?_
 rw [show (⟨#[105,110,100,101,120]⟩ : ByteArray).data.toList = [105,110,100,101,120] from rfl,h4]
 rintro e w' ⟨rfl,hb⟩
 exact ⟨rfl,h0.below hb,hb⟩
theorem KE.again {E : Sent} {n bx : Nat} {T ix : List UInt8} {w : World} (h : KE E n bx T ix w) : Calls Tryz.prog 20 #[.string (S T)] w fun e w' => e = .returned (.tuple #[.string (S ix),.int .i64 0]) /\ Below w.heap.size w w' := by
 obtain ⟨⟨G,q,d,h1,h2,h3,h4⟩,h5,h6⟩ := h
 refine (progIndex_any (S T) w (by rw [S_size]; omega) h1.env.halves).mono ?_
 rw [show (S T).data.toList = T from rfl,h5]
 exact fun e w' h => h
theorem ks_new {E : Sent} {n bs blk seed bits : Nat} {q : StP} {w1 w2 : World} (hE : Env0 n w2 E) (hn : n <= w1.heap.size) (hS : StoreAt w2 (Gnew w1 w2) bs (kdk blk seed bits [] 14 none []) q) (hK : KOk blk seed bits [] none [] 0) :
  KS E n bs w2.heap.size blk seed bits 0 [] (w2.alloc (.cells #[.slice none 0 0] 34)) := by
 have hb : Below w2.heap.size w2 (w2.alloc (.cells #[.slice none 0 0] 34)) := (Below.refl _ _).alloc (Nat.le_refl _) _
 refine ⟨Gnew w1 w2,[],14,none,[],[],⟨hE.below (hb.mono hE.le),fun k hk => ⟨Nat.le_trans hn hk.1,?_⟩,⟨q,hS.below hb⟩,⟨.slice none 0 0,⟨bx_new w2 _ _ rfl,World.ownsRow_nil _ _ _ _⟩,(fun e => by cases e),(fun g e => by cases e)⟩,hE.le,fun hk => absurd hk.2 (by omega)⟩,hK,?_,(fun f e => by cases e),rfl,rfl,by simp⟩
 ·have := hk.2
  simp
  omega
 ·rw [List.length_append,headL_length]
  omega
theorem kept_any (E : Sent) (ag al : Option Addr) (g l : List Int) (cg cl : Nat) (w : World) (hE : Env w E) (hg : IntsAt w ag g) (hl : IntsAt w al l) (hgr : ∀ x ∈ g,IntR x) (hlr : ∀ x ∈ l,IntR x) (hgl : g.length <= 9223372036854775807) (hll : l.length <= 9223372036854775807) :
  Calls Tryz.prog 7 #[.slice ag g.length cg,.slice al l.length cl] w fun e w' => e = .returned (.bool true) /\ Below w.heap.size w w' := by
 have hr := cfg_range g
 have hE0 : Env0 w.heap.size w E := ⟨w,rfl,hE,Below.refl _ _⟩
 have HCF := kconfig_any ag g cg w hg hgr hgl
 have HBG : Hid (∀ w1 : World,Below w.heap.size w w1 -> Calls Tryz.prog 13 #[.agg #[.int .i64 (cfgBlk g : Int),.int .i64 (cfgSeed g : Int),.int .i64 (cfgBits g : Int)]] w1 fun e w' => ∃ bs,e = .returned (.pointer (some ⟨bs,0,none⟩)) /\ KS E w.heap.size bs w'.heap.size (cfgBlk g) (cfgSeed g) (cfgBits g) 0 [] (w'.alloc (.cells #[.slice none 0 0] 34)) /\ Below w.heap.size w w') := fun w1 hb => by
  refine (kbegun_any E w.heap.size (cfgBlk g) (cfgSeed g) (cfgBits g) w1 (hE0.below hb) hr.1 hr.2.1 hr.2.2.1 hr.2.2.2).mono ?_
  rintro e w' ⟨bs,q,rfl,hS,hb2⟩
  have hb3 : Below w.heap.size w w' := hb.trans (hb2.mono hb.size)
  exact ⟨bs,rfl,ks_new (hE0.below hb3) hb.size hS (k_begun hr.1 hr.2.1 hr.2.2.1 hr.2.2.2).2,hb3⟩
 have HEN : Hid (∀ (bx bh c : Nat) (es : List Ent) (a b : Int) (wx : World),KS E w.heap.size bx bh (cfgBlk g) (cfgSeed g) (cfgBits g) c es wx -> c <= 500 -> IntR a -> IntR b -> Calls Tryz.prog 15 #[.pointer (some ⟨bx,0,none⟩),.pointer (some ⟨bh,0,none⟩),.int .i64 a,.int .i64 b] wx fun e w' => e = .returned (.bool true) /\ KS E w.heap.size bx bh (cfgBlk g) (cfgSeed g) (cfgBits g) (c + 1) (es ++ [entK a b]) w' /\ Below w.heap.size wx w') := fun bx bh c es a b wx h hc ha hb => kentry_any E _ bx bh _ _ _ c es a b wx h hc ha hb
 have HFL : Hid (∀ (bx bh c : Nat) (es : List Ent) (wx : World),KS E w.heap.size bx bh (cfgBlk g) (cfgSeed g) (cfgBits g) c es wx -> c <= 600 -> Calls Tryz.prog 17 #[.pointer (some ⟨bx,0,none⟩)] wx fun e w' => e = .returned (.int .i64 0) /\ KF E w.heap.size bx bh (cfgBlk g) (cfgSeed g) (cfgBits g) c es w' /\ Below w.heap.size wx w') := fun bx bh c es wx h hc => kflush_any E _ bx bh _ _ _ c es wx h hc
 have HTL : Hid (∀ (bx bh c : Nat) (es : List Ent) (wx : World),KF E w.heap.size bx bh (cfgBlk g) (cfgSeed g) (cfgBits g) c es wx -> c <= 600 -> Calls Tryz.prog 18 #[.pointer (some ⟨bx,0,none⟩),.pointer (some ⟨bh,0,none⟩)] wx fun e w' => e = .returned (.bool true) /\ KT E w.heap.size bx bh (cfgBlk g) (cfgSeed g) (cfgBits g) c es w' /\ Below w.heap.size wx w') := fun bx bh c es wx h hc => ktell_any E _ bx bh _ _ _ c es wx h hc
 have HLC : Hid (∀ (wx : World),Below w.heap.size w wx -> l = [] \/ ∃ b off,al = some ⟨b,off,none⟩ /\ b < w.heap.size /\ ∀ i (hi : i < l.length),wx.cell? ⟨b,off + i,none⟩ = some (.int .i64 l[i])) := fun wx hb => by
  rcases hl with h | ⟨b,off,e,h1,h2⟩
  ·exact .inl h
  ·exact .inr ⟨b,off,e,h1,fun i hi => (hb.cell (p := ⟨b,off + i,none⟩) h1).trans (h2 i hi)⟩
 have HLR : Hid (∀ x ∈ l,IntR x) := hlr
 generalize cfgBlk g = blk at *
 generalize cfgSeed g = seed at *
 generalize cfgBits g = bits at *
 clear hr hg hgr hl hlr
 go_enter Tryz.func7,Tryz.ntmps7
 go_wp2_with (first | (go_at_call 14; refine HCF.mono ?_; rintro e w1 ⟨rfl,hb1⟩; have HB1 : Hid (Below w.heap.size w w1) := hb1; clear hb1) | (go_at_call 13; refine (HBG.out w1 HB1.out).mono ?_; rintro e w2 ⟨bx,rfl,hk2,hb2⟩; have HK2 : Hid (KS E w.heap.size bx w2.heap.size blk seed bits 0 [] (w2.alloc (.cells #[.slice none 0 0] 34))) := hk2; have HB2 : Hid (Below w.heap.size w w2) := hb2; clear hk2 hb2))
 have HB2a : Hid (Below w.heap.size w (w2.alloc (.cells #[.slice none 0 0] 34))) := HB2.out.alloc HB2.out.size _
 go_loopw [7] (fun i wr => ∃ (j : Nat) (es : List Ent),i = .int .i64 ((2 * j : Nat) : Int) /\ j <= 200 /\ KS E w.heap.size bx w2.heap.size blk seed bits j es wr /\ Below w.heap.size w wr) (fun i _ => 400 - (intOf i).toNat)
 case atStart => exact ⟨0,[],rfl,by omega,HK2.out,HB2a.out⟩
 case round =>
  obtain ⟨j,es,rfl,hj,hk,hb⟩ := hrel
  obtain ⟨k,hkj⟩ : ∃ k,k = 2 * j := ⟨_,rfl⟩
  rw [<- hkj]
  have HKJ : Hid (k = 2 * j) := hkj
  have HK : Hid (KS E w.heap.size bx w2.heap.size blk seed bits j es wr) := hk
  have HB : Hid (Below w.heap.size w wr) := hb
  by_cases hlt : k + 1 < l.length /\ k < 400
  ·obtain ⟨hl1,hl2⟩ := hlt
   rcases HLC.out wr hb with e0 | ⟨b,off,rfl,hbl,hcs⟩
   ·rw [e0] at hl1; simp at hl1
   have c0 := hcs k (by omega)
   have c1 := hcs (k + 1) (by omega)
   have hj1 : j <= 199 := by omega
   have z1 : (k : Int) + 1 < (l.length : Int) := by omega
   have z2 : (k : Int) < (l.length : Int) := by omega
   have z3 : (k : Int) < 400 := by omega
   have z4 : IntKind.i64.wrap ((k : Int) + 1) = (k : Int) + 1 := by rw [IntKind.wrap_i64]; omega
   have ra : IntR l[k] := HLR.out _ (List.getElem_mem _)
   have rb : IntR l[k + 1] := HLR.out _ (List.getElem_mem _)
   have HENj : Hid _ := HEN.out bx w2.heap.size j es l[k] l[k + 1]
   clear hcs hk hb
   generalize l[k] = a at *
   generalize l[k + 1] = a' at *
   clear hkj
   have HR0 : Hid (∀ wx : World,Below w.heap.size wr wx -> wx.cell? ⟨b,off + k,none⟩ = some (.int .i64 a)) := fun wx hbx => (hbx.cell (p := ⟨b,off + k,none⟩) hbl).trans c0
   have hq := tdiv60_range ra
   have hwr : IntKind.i64.wrap (a.tdiv 60) = a.tdiv 60 := by
    have := hq
    unfold IntR at this
    rw [IntKind.wrap_i64]
    omega
   have HP : Hid (∀ wx : World,Calls Tryz.prog 16 #[.int .i64 (a.tdiv 60),.int .i64 50] wx fun e w' => e = .returned (.int .i64 (pickK (a.tdiv 60) 50)) /\ w' = wx) := fun wx => kpick_any _ 50 wx (by omega) hq (by omega)
   clear hq
   generalize hq60 : a.tdiv 60 = a60 at *
   have HRA : Hid (IntR a /\ IntR a') := ⟨ra,rb⟩
   clear ra rb
   go_wp2_with fail
   go_region_with (first | (go_at_call 15; refine (HENj.out _ ?_ (by omega) HRA.out.1 HRA.out.2).mono ?_; exact KS.drew HK.out; rintro e w3 ⟨rfl,hk3,hb3⟩; have HK3 : Hid (KS E w.heap.size bx w2.heap.size blk seed bits (j + 1) (es ++ [entK a a']) w3) := hk3; have hb3' : Below w.heap.size wr w3 := ⟨hb3.os,hb3.tape,hb3.output,hb3.size,hb3.block⟩; have c3 := HR0.out w3 hb3'; have HB3 : Hid (Below w.heap.size w w3) := HB.out.trans hb3'; clear hk3 hb3 hb3'))
   all_goals
    by_cases hp : pickK a60 50 = 0
    ·rw [hp] at HP
     go_wp2_with (first | (go_at_call 16; refine (HP.out _).mono ?_; rintro e w3 ⟨rfl,rfl⟩) | (go_at_call 17; refine (HFL.out bx w2.heap.size (j + 1) _ w3 HK3.out (by omega)).mono ?_; rintro e w4 ⟨rfl,hk4,hb4⟩; have HK4 : Hid (KF E w.heap.size bx w2.heap.size blk seed bits (j + 1) (es ++ [entK a a']) w4) := hk4; have HB4 : Hid (Below w.heap.size w w4) := HB3.out.trans hb4; clear hk4 hb4) | (go_at_call 18; refine (HTL.out bx w2.heap.size (j + 1) _ w4 HK4.out (by omega)).mono ?_; rintro e w5 ⟨rfl,hk5,hb5⟩; have HK5 : Hid (KT E w.heap.size bx w2.heap.size blk seed bits (j + 1) (es ++ [entK a a']) w5) := hk5; have HB5 : Hid (Below w.heap.size w w5) := HB4.out.trans hb5; clear hk5 hb5))
     go_roundw
     case rel => exact ⟨j + 1,_,by rw [show ((2 * (j + 1) : Nat) : Int) = (k : Int) + 2 by have := HKJ.out; omega],by omega,HK5.out.ks,HB5.out⟩
     case measure => simp [intOf]; omega
    ·go_wp2_with (first | (go_at_call 16; refine (HP.out _).mono ?_; rintro e w3 ⟨rfl,rfl⟩))
     go_roundw
     case rel => exact ⟨j + 1,_,by rw [show ((2 * (j + 1) : Nat) : Int) = (k : Int) + 2 by have := HKJ.out; omega],by omega,HK3.out,HB3.out⟩
     case measure => simp [intOf]; omega
  ·have hz : ¬ ((k : Int) + 1 < (l.length : Int)) \/ ¬ ((k : Int) < 400) := by omega
   have z4 : IntKind.i64.wrap ((k : Int) + 1) = (k : Int) + 1 := by rw [IntKind.wrap_i64]; omega
   clear hkj hk hb hlt
   rcases (show (¬ ((k : Int) + 1 < (l.length : Int))) \/ ((k : Int) + 1 < (l.length : Int) /\ ¬ ((k : Int) < 400)) by omega) with hz1 | ⟨hz1,hz2⟩
   all_goals
    clear hz
    go_wp2_with (first | (go_at_call 17; refine (HFL.out bx w2.heap.size j _ wr HK.out (by omega)).mono ?_; rintro e w4 ⟨rfl,hk4,hb4⟩; have HK4 : Hid (KF E w.heap.size bx w2.heap.size blk seed bits j es w4) := hk4; have HB4 : Hid (Below w.heap.size w w4) := HB.out.trans hb4; clear hk4 hb4) | (go_at_call 18; refine (HTL.out bx w2.heap.size j _ w4 HK4.out (by omega)).mono ?_; rintro e w5 ⟨rfl,hk5,hb5⟩; obtain ⟨T,ix,hke5⟩ := hk5.ke (by omega); have HK5 : Hid (KE E w.heap.size bx T ix w5) := hke5; have HB5 : Hid (Below w.heap.size w w5) := HB4.out.trans hb5; clear hk5 hb5 hke5))
    refine HK5.out.log.mono ?_
    rintro e w6 ⟨rfl,hk6,hb6⟩
    have HK6 : Hid (KE E w.heap.size bx T ix w6) := hk6
    have HB6 : Hid (Below w.heap.size w w6) := HB5.out.trans (hb6.mono HB5.out.size)
    clear hk6 hb6
    go_wp2_with fail
    refine HK6.out.idx.mono ?_
    rintro e w7 ⟨rfl,hk7,hb7⟩
    have HK7 : Hid (KE E w.heap.size bx T ix w7) := hk7
    have HB7 : Hid (Below w.heap.size w w7) := HB6.out.trans (hb7.mono HB6.out.size)
    clear hk7 hb7
    go_wp2_with fail
    refine HK7.out.again.mono ?_
    rintro e w8 ⟨rfl,hb8⟩
    have HB8 : Hid (Below w.heap.size w w8) := HB7.out.trans (hb8.mono HB7.out.size)
    clear hb8
    go_wp2
    go_ret
    exact ⟨by simp,HB8.out⟩
end Go.Proofs.YtdhgebdbiehchaaGreatDoor
