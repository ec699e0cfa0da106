/- On the way: PAdd2, PPut, PNew, PCreate, PCreate2, PCreate3, PCreate4, KpBegun. -/
import Derived.Test.YtdhgebdbiehchaaGreatDoorB37
import Derived.Test.YtdhgebdbiehchaaGreatDoorB10
namespace Go.Proofs.YtdhgebdbiehchaaGreatDoor
open Go.RowKit Go.Maps
set_option linter.unusedSimpArgs false
set_option linter.unusedVariables false
set_option maxRecDepth 100000
set_option maxHeartbeats 3200000
theorem ref_zero {d : Dk} (h : refE d = 0) : d.down = false /\ ∃ blk,d.opn = some blk := by
 unfold refE at h
 split at h
 ·cases h
 ·rename_i hd
  split at h
  ·rename_i ho
   exact ⟨by simpa using hd,Option.isSome_iff_exists.1 ho⟩
  ·cases h
def AddS (bs bw be : Nat) (en : Ent) (w w' : World) : Prop := (w'.cell? ⟨bs,1,none⟩ = some (.pointer (some ⟨bw,0,none⟩)) /\ (w'.cell? ⟨be,0,none⟩ = some (.bool en.put) /\ w'.cell? ⟨be,1,none⟩ = some (.string (S en.key)) /\ w'.cell? ⟨be,2,none⟩ = some (.string (S en.val)))) /\ Below w.heap.size w w'
theorem addS_next {bs bw be : Nat} {en : Ent} {w wx w' : World} (h : AddS bs bw be en w wx) (hb : Below wx.heap.size wx w') : AddS bs bw be en w w' := by
 obtain ⟨⟨h1,h4,h5,h6⟩,h7⟩ := h
 have f : ∀ {k j : Nat} {x : Value},wx.cell? ⟨k,j,none⟩ = some x -> w'.cell? ⟨k,j,none⟩ = some x := fun {k j x} hx => by
  have hlt := cell_lt (p := ⟨k,j,none⟩) hx
  rw [<- hx]
  unfold World.cell?
  rw [hb.block k hlt]
 exact ⟨⟨f h1,f h4,f h5,f h6⟩,h7.trans (hb.mono h7.size)⟩
theorem add_let (E : Sent) (n : Nat) (G : Nat -> Prop) (bs : Nat) (d : Dk) (q : StP) (en : Ent) (w : World) (hE : Env0 n w E) (hG : ∀ k,G k -> n <= k /\ k < w.heap.size) (hS : StoreAt w G bs d q) (hok : DkOk d) (hr : rightB en = true) (hrf : refE d = 0) :
  Calls Tryz.prog 53 #[.pointer (some ⟨bs,0,none⟩),entV en] w fun e w' => e = .returned (.int .i64 (d.add en).1) /\ Done E G bs w (d.add en).2 w' := by
 obtain ⟨hd,blk,ho⟩ := ref_zero hrf
 have hrn := right_not hr
 have hk : en.key.length <= 20 := by omega
 have hv : en.val.length <= 30 := by omega
 have hw := hS.wait
 rw [ho] at hw
 obtain ⟨bw,hbw,hwa⟩ := wait_some hw
 obtain ⟨W,hW⟩ : ∃ W : World,W = w.alloc (.cells #[.bool en.put,.string (S en.key),.string (S en.val)] 106) := ⟨_,rfl⟩
 have hB0 : Below w.heap.size w W := by rw [hW]; exact (Below.refl _ _).alloc (Nat.le_refl _) _
 have hx : Bx W w.heap.size #[.bool en.put,.string (S en.key),.string (S en.val)] 106 := by rw [hW]; exact bx_new w _ _ rfl
 have hzW : W.heap.size = w.heap.size + 1 := by rw [hW]; simp
 have HRI := entRight_any en W
 rw [hr] at HRI
 have HCE : Hid (∀ w1 : World,Below W.heap.size W w1 -> (w1.cell? ⟨w.heap.size,0,none⟩ = some (.bool en.put) /\ w1.cell? ⟨w.heap.size,1,none⟩ = some (.string (S en.key)) /\ w1.cell? ⟨w.heap.size,2,none⟩ = some (.string (S en.val))) /\ w1.cell? ⟨bs,1,none⟩ = some (.pointer (some ⟨bw,0,none⟩)) /\ Below w.heap.size w w1) := fun w1 hb => by
  have h1 := hx.below hb hx.lt
  have hb1 : Below w.heap.size w w1 := hB0.trans (hb.mono hB0.size)
  have h2 : w1.cell? ⟨bs,1,none⟩ = some (optP q.ow) := (hS.box.below hb1 hS.box.lt).cell (j := 1) rfl
  rw [hbw] at h2
  exact ⟨⟨h1.cell (j := 0) rfl,h1.cell (j := 1) rfl,h1.cell (j := 2) rfl⟩,h2,hb1⟩
 have HRF : Hid (∀ w1 : World,Below W.heap.size W w1 -> Calls Tryz.prog 38 #[.pointer (some ⟨bs,0,none⟩)] w1 fun e w' => e = .returned (.int .i64 0) /\ Below w1.heap.size w1 w') := fun w1 hb => by
  have hb1 : Below w.heap.size w w1 := hB0.trans (hb.mono hB0.size)
  have := refusal_any E n G bs d q w1 (hE.chg (F := fun _ => False) (Chg.of_below hb1) (fun _ h => h.elim)) (hS.below hb1)
  rw [hrf] at this
  exact this
 have hwl := hok_waits hok
 have hmo := hok.most
 have HTK : Hid (∀ w1 : World,Below w.heap.size w w1 -> Calls Tryz.prog 100 #[.pointer (some ⟨bw,0,none⟩),.agg #[.bool en.put,.string (S en.key),.string (S en.val)]] w1 fun e w' => e = .returned (.bool (takesB blk d.waits en)) /\ Below w1.heap.size w1 w') := fun w1 hb => takes_any bw blk d.waits en q.v w1 (hwa.below hb) hk hv (by omega) (by omega)
 have HD0 : Hid (∀ w1 : World,Below w.heap.size w w1 -> Done E G bs w d w1) := fun w1 hb => ⟨⟨q,(hS.below hb).mono (fun k h => .inl h)⟩,Chg.of_below hb⟩
 have HGZ : Hid (∀ k,G k -> k < w.heap.size) := fun k hk => (hG k hk).2
 have HOK : Hid (DkOk d) := hok
 have HHO : Hid (d.opn = some blk) := ho
 cases hf : takesB blk d.waits en with
 | true =>
  rw [hf] at HTK
  have HA : Hid (d.add en = (0,{ d with waits := d.waits ++ [en] })) := add_fits hr hd ho hf
  rw [hzW] at HCE HRF HRI
  have HSZ : Hid (∀ w1 : World,Below (w.heap.size + 1) W w1 -> w.heap.size + 1 <= w1.heap.size) := fun w1 hb => by have := hb.size; omega
  have HAD : Hid (∀ w4 : World,Below w.heap.size w w4 -> _) := fun w4 hb => done_add (en := en) HGZ.out (HD0.out w4 hb) HHO.out HOK.out hk hv
  subst hW
  unfold entV at HRI ⊢
  clear hE hG hS hok hwa hw hB0 hx hzW hbw hwl hmo ho
  go_enter Tryz.func53,Tryz.ntmps53
  go_wp2_with (first | (go_at_call 99; refine HRI.mono ?_; rintro e w1 ⟨rfl,hb⟩) | (go_at_call 38; refine (HRF.out w1 hb).mono ?_; rintro e w2 ⟨rfl,hb2⟩; have hbW : Below (w.heap.size + 1) (w.alloc (.cells #[.bool en.put,.string (S en.key),.string (S en.val)] 106)) w2 := hb.trans (hb2.mono (HSZ.out w1 hb)); obtain ⟨⟨e0,e1,e2⟩,k1,hbw2⟩ := HCE.out w2 hbW; have HBW : Hid (Below w.heap.size w w2) := hbw2; clear hb hb2 hbW hbw2))
  go_region_held3 (fun w' => (w'.cell? ⟨bs,1,none⟩ = some (.pointer (some ⟨bw,0,none⟩)) /\ (w'.cell? ⟨w.heap.size,0,none⟩ = some (.bool en.put) /\ w'.cell? ⟨w.heap.size,1,none⟩ = some (.string (S en.key)) /\ w'.cell? ⟨w.heap.size,2,none⟩ = some (.string (S en.val)))) /\ Below w.heap.size w w') (first | (exact ⟨⟨k1,e0,e1,e2⟩,HBW.out.drew⟩) | (assumption) | (exact addS_next (by assumption) (by assumption))) (first | (go_at_call 100; refine (HTK.out _ ?_).mono ?_; exact And.right (by assumption); rintro e w3 ⟨rfl,hb3⟩))
  all_goals
   have hs3 : AddS bs bw w.heap.size en w w3 := by assumption
   obtain ⟨⟨m1,m2,m3,m4⟩,m5⟩ := hs3
   obtain ⟨bw4,n1,hadd⟩ := HAD.out w3 m5
   have hbe : bw4 = bw := by rw [m1] at n1; simpa using n1.symm
   subst hbe
   have HADD : Hid _ := hadd
   clear hadd n1 m5 e0 e1 e2 k1
   go_wp2_with fail
   go_region_with (first | (go_at_call 101; refine (HADD.out _ ?_).mono ?_; exact (Below.refl _ _).drew; rintro e w5 ⟨rfl,hd5⟩))
   all_goals
    go_wp2
    go_ret
    exact ⟨by rw [HA.out]; rfl,by rw [HA.out]; exact hd5⟩
 | false =>
  rw [hf] at HTK
  have hne : d.waits ≠ [] := by intro e; unfold takesB at hf; rw [e] at hf; simp at hf
  have HWR : Hid (∀ w3 : World,Below w.heap.size w w3 -> Calls Tryz.prog 40 #[.pointer (some ⟨bs,0,none⟩)] w3 fun e w' => ∃ v,e = .returned v /\ FaultIs w' E d.write.1 v /\ Done E G bs w d.write.2 w' /\ Chg G w3 w') := fun w1 hb =>
   (write_any E n G bs blk d q w1 (hE.chg (F := fun _ => False) (Chg.of_below hb) (fun _ h => h.elim)) (fun k hk => ⟨(hG k hk).1,Nat.lt_of_lt_of_le (hG k hk).2 hb.size⟩) (hS.below hb) hok hd ho hne).mono fun e w' ⟨v,h1,h2,h3⟩ => ⟨v,h1,h2,h3.later hb,h3.2⟩
  have HAW := add_write hr hd ho hf
  have hfine := write_fine hok hd
  have HCW := codes_answer (write_codes d)
  have HEV : Hid (∀ (w1 : World) (d' : Dk),Done E G bs w d' w1 -> Env w1 E) := fun w1 d' h => (done_env hE hG h).env
  have HNG : Hid (¬ G w.heap.size) := fun h => by have := (hG _ h).2; omega
  generalize d.write = r at *
  obtain ⟨re,rd⟩ := r
  simp only at HAW hfine HCW
  by_cases h0 : re = 0
  ·subst h0
   rw [if_pos rfl] at HAW
   obtain ⟨f1,f2,f3,f4⟩ := hfine rfl
   have HA : Hid (d.add en = (0,{ rd with waits := rd.waits ++ [en] })) := HAW
   have HAD : Hid (∀ w4 : World,Done E G bs w rd w4 -> _) := fun w4 h => done_add (en := en) HGZ.out h (f3.trans HHO.out) f1 hk hv
   clear HAW hfine f1 f2 f3 f4 HCW hne
   rw [hzW] at HCE HRF HRI
   have HSZ : Hid (∀ w1 : World,Below (w.heap.size + 1) W w1 -> w.heap.size + 1 <= w1.heap.size) := fun w1 hb => by have := hb.size; omega
   subst hW
   unfold entV at HRI ⊢
   clear hE hG hS hok hwa hw hB0 hx hzW hbw hwl hmo ho
   go_enter Tryz.func53,Tryz.ntmps53
   go_wp2_with (first | (go_at_call 99; refine HRI.mono ?_; rintro e w1 ⟨rfl,hb⟩) | (go_at_call 38; refine (HRF.out w1 hb).mono ?_; rintro e w2 ⟨rfl,hb2⟩; have hbW : Below (w.heap.size + 1) (w.alloc (.cells #[.bool en.put,.string (S en.key),.string (S en.val)] 106)) w2 := hb.trans (hb2.mono (HSZ.out w1 hb)); obtain ⟨⟨e0,e1,e2⟩,k1,hbw2⟩ := HCE.out w2 hbW; have HBW : Hid (Below w.heap.size w w2) := hbw2; clear hb hb2 hbW hbw2))
   go_region_held3 (fun w' => (w'.cell? ⟨bs,1,none⟩ = some (.pointer (some ⟨bw,0,none⟩)) /\ (w'.cell? ⟨w.heap.size,0,none⟩ = some (.bool en.put) /\ w'.cell? ⟨w.heap.size,1,none⟩ = some (.string (S en.key)) /\ w'.cell? ⟨w.heap.size,2,none⟩ = some (.string (S en.val)))) /\ Below w.heap.size w w') (first | (exact ⟨⟨k1,e0,e1,e2⟩,HBW.out.drew⟩) | (assumption) | (exact addS_next (by assumption) (by assumption))) (first | (go_at_call 100; refine (HTK.out _ ?_).mono ?_; exact And.right (by assumption); rintro e w3 ⟨rfl,hb3⟩))
   all_goals
    have hs3 : AddS bs bw w.heap.size en w w3 := by assumption
    obtain ⟨⟨m1,m2,m3,m4⟩,m5⟩ := hs3
    have HM : Hid (Below w.heap.size w w3) := m5
    have HX3 : Hid (∀ w4 : World,Chg G w3 w4 -> w4.cell? ⟨w.heap.size,0,none⟩ = some (.bool en.put) /\ w4.cell? ⟨w.heap.size,1,none⟩ = some (.string (S en.key)) /\ w4.cell? ⟨w.heap.size,2,none⟩ = some (.string (S en.val))) := fun w4 hc => by
     have hlt := cell_lt (p := ⟨w.heap.size,0,none⟩) m2
     have hh := hc.keep w.heap.size hlt HNG.out
     have f : ∀ {j : Nat} {x : Value},w3.cell? ⟨w.heap.size,j,none⟩ = some x -> w4.cell? ⟨w.heap.size,j,none⟩ = some x := fun {j x} hx => by
      rw [<- hx]
      unfold World.cell?
      rw [hh]
     exact ⟨f m2,f m3,f m4⟩
    clear m1 m2 m3 m4 m5 e0 e1 e2 k1
    go_wp2_with (first | (go_at_call 40; refine (HWR.out w3 HM.out).mono ?_; rintro e w4 ⟨v,rfl,hf4,hd4,hc4⟩; obtain rfl := fault_nil hf4; obtain ⟨e0,e1,e2⟩ := HX3.out w4 hc4; obtain ⟨bw4,n1,hadd⟩ := HAD.out w4 hd4; have HADD : Hid _ := hadd; clear hadd hf4 hd4 hc4))
    go_region_with (first | (go_at_call 101; refine (HADD.out _ ?_).mono ?_; exact (Below.refl _ _).drew; rintro e w5 ⟨rfl,hd5⟩))
    all_goals
     go_wp2
     go_ret
     exact ⟨by rw [HA.out]; rfl,by rw [HA.out]; exact hd5⟩
  ·rw [if_neg h0] at HAW
   have HA : Hid (d.add en = (re,rd)) := HAW
   clear HAW hfine hne
   rw [hzW] at HCE HRF HRI
   have HSZ : Hid (∀ w1 : World,Below (w.heap.size + 1) W w1 -> w.heap.size + 1 <= w1.heap.size) := fun w1 hb => by have := hb.size; omega
   subst hW
   unfold entV at HRI ⊢
   clear hE hG hS hok hwa hw hB0 hx hzW hbw hwl hmo ho
   go_enter Tryz.func53,Tryz.ntmps53
   go_wp2_with (first | (go_at_call 99; refine HRI.mono ?_; rintro e w1 ⟨rfl,hb⟩) | (go_at_call 38; refine (HRF.out w1 hb).mono ?_; rintro e w2 ⟨rfl,hb2⟩; have hbW : Below (w.heap.size + 1) (w.alloc (.cells #[.bool en.put,.string (S en.key),.string (S en.val)] 106)) w2 := hb.trans (hb2.mono (HSZ.out w1 hb)); obtain ⟨⟨e0,e1,e2⟩,k1,hbw2⟩ := HCE.out w2 hbW; have HBW : Hid (Below w.heap.size w w2) := hbw2; clear hb hb2 hbW hbw2))
   go_region_held3 (fun w' => (w'.cell? ⟨bs,1,none⟩ = some (.pointer (some ⟨bw,0,none⟩)) /\ (w'.cell? ⟨w.heap.size,0,none⟩ = some (.bool en.put) /\ w'.cell? ⟨w.heap.size,1,none⟩ = some (.string (S en.key)) /\ w'.cell? ⟨w.heap.size,2,none⟩ = some (.string (S en.val)))) /\ Below w.heap.size w w') (first | (exact ⟨⟨k1,e0,e1,e2⟩,HBW.out.drew⟩) | (assumption) | (exact addS_next (by assumption) (by assumption))) (first | (go_at_call 100; refine (HTK.out _ ?_).mono ?_; exact And.right (by assumption); rintro e w3 ⟨rfl,hb3⟩))
   all_goals
    have hs3 : AddS bs bw w.heap.size en w w3 := by assumption
    have HM : Hid (Below w.heap.size w w3) := hs3.2
    clear e0 e1 e2 k1
    go_wp2_with (first | (go_at_call 40; refine (HWR.out w3 HM.out).mono ?_; rintro e w4 ⟨v,rfl,hf4,hd4,hc4⟩; obtain ⟨b,rfl⟩ := fault_some hf4 h0; have HFA : Hid (FaultIs w4 E re (.iface 128 (.pointer (some ⟨b,0,none⟩)))) := hf4; have HDN : Hid (Done E G bs w rd w4) := hd4; clear hf4 hd4 hc4) | (go_at_call 41; refine (answer_any E re _ w4 (HEV.out w4 _ HDN.out) HFA.out HCW).mono ?_; rintro e w7 ⟨rfl,hb7⟩))
    go_ret
    exact ⟨by rw [HA.out]; rfl,by rw [HA.out]; exact done_below HDN.out hb7⟩
theorem addE_any (E : Sent) (n : Nat) (G : Nat -> Prop) (bs : Nat) (d : Dk) (q : StP) (en : Ent) (w : World) (hE : Env0 n w E) (hG : ∀ k,G k -> n <= k /\ k < w.heap.size) (hS : StoreAt w G bs d q) (hok : DkOk d) :
  Calls Tryz.prog 53 #[.pointer (some ⟨bs,0,none⟩),entV en] w fun e w' => e = .returned (.int .i64 (d.add en).1) /\ Done E G bs w (d.add en).2 w' := by
 by_cases h : rightB en = false \/ refE d ≠ 0
 ·exact add_refused E n G bs d q en w hE hS h
 ·have h1 : rightB en = true := by cases hh : rightB en; exact absurd (.inl hh) h; rfl
  have h2 : refE d = 0 := by by_cases hh : refE d = 0; exact hh; exact absurd (.inr hh) h
  exact add_let E n G bs d q en w hE hG hS hok h1 h2
theorem putS_any (E : Sent) (n : Nat) (G : Nat -> Prop) (bs : Nat) (d : Dk) (q : StP) (key val : List UInt8) (w : World) (hE : Env0 n w E) (hG : ∀ k,G k -> n <= k /\ k < w.heap.size) (hS : StoreAt w G bs d q) (hok : DkOk d) :
  Calls Tryz.prog 26 #[.pointer (some ⟨bs,0,none⟩),.string (S key),.string (S val)] w fun e w' => e = .returned (.int .i64 (d.add ⟨true,key,val⟩).1) /\ Done E G bs w (d.add ⟨true,key,val⟩).2 w' := by
 have HA := addE_any E n G bs d q ⟨true,key,val⟩ w hE hG hS hok
 unfold entV at HA
 simp only at HA
 clear hE hG hS hok
 generalize d.add ⟨true,key,val⟩ = r at *
 go_enter Tryz.func26,Tryz.ntmps26
 go_wp2_with (first | (go_at_call 53; refine HA.mono ?_; rintro e w1 ⟨rfl,hd⟩))
 go_ret
 exact ⟨rfl,hd⟩
theorem S_nil : S [] = (⟨#[]⟩ : ByteArray) := rfl
theorem delS_any (E : Sent) (n : Nat) (G : Nat -> Prop) (bs : Nat) (d : Dk) (q : StP) (key : List UInt8) (w : World) (hE : Env0 n w E) (hG : ∀ k,G k -> n <= k /\ k < w.heap.size) (hS : StoreAt w G bs d q) (hok : DkOk d) :
  Calls Tryz.prog 24 #[.pointer (some ⟨bs,0,none⟩),.string (S key)] w fun e w' => e = .returned (.int .i64 (d.add ⟨false,key,[]⟩).1) /\ Done E G bs w (d.add ⟨false,key,[]⟩).2 w' := by
 have HA := addE_any E n G bs d q ⟨false,key,[]⟩ w hE hG hS hok
 unfold entV at HA
 simp only [S_nil] at HA
 clear hE hG hS hok
 generalize d.add ⟨false,key,[]⟩ = r at *
 go_enter Tryz.func24,Tryz.ntmps24
 go_wp2_with (first | (go_at_call 53; refine HA.mono ?_; rintro e w1 ⟨rfl,hd⟩))
 go_ret
 exact ⟨rfl,hd⟩
theorem fileR_codes (d : Dk) (s : List UInt8) : (d.fileR s).2 = 0 \/ (d.fileR s).2 = 6 \/ (d.fileR s).2 = 7 \/ (d.fileR s).2 = 8 \/ (d.fileR s).2 = 1 \/ (d.fileR s).2 = 2 := by
 unfold Dk.fileR
 split
 ·simp
 ·split <;> simp
theorem fileS_any (E : Sent) (n : Nat) (G : Nat -> Prop) (bs : Nat) (d : Dk) (q : StP) (s : ByteArray) (w : World) (hE : Env0 n w E) (hS : StoreAt w G bs d q) (hs : s.size <= 140737488351232) :
  Calls Tryz.prog 19 #[.pointer (some ⟨bs,0,none⟩),.string s] w fun e w' => e = .returned (.tuple #[.string (S (d.fileR s.data.toList).1),.int .i64 (d.fileR s.data.toList).2]) /\ Below w.heap.size w w' := by
 have c0 : w.cell? ⟨bs,0,none⟩ = some (.pointer (some ⟨q.bd,0,none⟩)) := hS.box.cell (j := 0) rfl
 have HRD := read_disk E n q.Fd q.bd d q.p s w hE hS.disk hs
 have HEV : Hid (∀ w1 : World,Below w.heap.size w w1 -> Env w1 E) := fun w1 hb => hE.env.below hb
 have HCO := fileR_codes d s.data.toList
 clear hE hS
 generalize d.fileR s.data.toList = r at *
 go_enter Tryz.func19,Tryz.ntmps19
 go_wp2_with (first | (go_at_call 50; refine HRD.mono ?_; rintro e w1 ⟨ev,rfl,hf,hb⟩; have HFA : Hid (FaultIs w1 E r.2 ev) := hf; have HB : Hid (Below w.heap.size w w1) := hb; clear hf hb) | (go_at_call 41; refine (answer_any E r.2 ev w1 (HEV.out w1 HB.out) HFA.out HCO).mono ?_; rintro e w2 ⟨rfl,hb2⟩))
 go_ret2
 exact ⟨rfl,HB.out.trans (hb2.mono HB.out.size)⟩
def dk0 (room : Nat) : Dk := ⟨room,false,none,none,none,none,none,[]⟩
theorem dk0_file (room i : Nat) : (dk0 room).file i = none := by
 unfold Dk.file dk0
 split
 ·rfl
 ·split
  ·rfl
  ·split <;> rfl
def Fnew (w : World) (k : Nat) : Prop := k = w.heap.size \/ k = w.heap.size + 1
theorem disk0 (room : Nat) (w : World) : DiskAt ((w.alloc (.map #[] 0)).alloc (.cells #[.int .i64 (room : Int),.map (some w.heap.size),.bool false,.pointer none] 183)) (Fnew w) (w.heap.size + 1) (dk0 room) ⟨w.heap.size,none,fun _ => 0,fun _ => .slice none 0 0⟩ := by
 refine ⟨bx_new _ _ _ (by simp),⟨.map [],own_tight ((World.ownsMap_made w _ _ _).alloc _) (Nat.zero_le _),?_,rfl⟩,trivial,fun i f h => (by rw [dk0_file] at h; cases h),fun i j _ h => (by rw [dk0_file] at h; cases h),fun i j _ h => (by rw [dk0_file] at h; cases h),.inr rfl,.inl rfl,fun c e => (by cases e),fun i h => (by rw [dk0_file] at h; cases h),fun i h => (by rw [dk0_file] at h; cases h),fun s k e => (by cases e)⟩
 refine view_empty.congr (fun l => ?_)
 unfold fM
 split
 ·rw [dk0_file]; rfl
 ·rfl
theorem new_any (room : Nat) (w : World) :
  Calls Tryz.prog 67 #[.int .i64 (room : Int)] w fun e w' => e = .returned (.pointer (some ⟨w.heap.size + 1,0,none⟩)) /\ w' = (w.alloc (.map #[] 0)).alloc (.cells #[.int .i64 (room : Int),.map (some w.heap.size),.bool false,.pointer none] 183) := by
 have hmm := @run_makeMap Tryz.prog
 go_enter Tryz.func67,Tryz.ntmps67
 go_wp2
 go_ret
 exact ⟨rfl,rfl⟩
def Gnew (w w' : World) (k : Nat) : Prop := w.heap.size <= k /\ k < w'.heap.size
theorem disk_good (room : Nat) (w : World) (h : room <= 100000) :
  Calls Tryz.prog 35 #[.int .i64 (room : Int)] w fun e w' => ∃ bs q,e = .returned (.tuple #[.pointer (some ⟨bs,0,none⟩),.int .i64 0]) /\ StoreAt w' (Gnew w w') bs (dk0 room) q /\ Below w.heap.size w w' := by
 have h0 : ¬ ((room : Int) < 0) := by omega
 have h1 : ¬ ((100000 : Int) < (room : Int)) := by omega
 go_enter Tryz.func35,Tryz.ntmps35
 go_wp2_with (first | (go_at_call 67; refine (new_any room w).mono ?_; rintro e w1 ⟨rfl,hw1⟩; have hsz : w1.heap.size = w.heap.size + 1 + 1 := (by rw [hw1]; simp); have HD : Hid (DiskAt w1 (Fnew w) (w.heap.size + 1) (dk0 room) ⟨w.heap.size,none,fun _ => 0,fun _ => .slice none 0 0⟩) := (by rw [hw1]; exact disk0 room w); have HB : Hid (Below w.heap.size w w1) := (by rw [hw1]; exact ((Below.refl _ _).alloc (Nat.le_refl _) _).alloc (by simp) _); clear hw1))
 go_ret2
 refine ⟨w.heap.size + 1 + 1,⟨w.heap.size + 1,Fnew w,⟨w.heap.size,none,fun _ => 0,fun _ => .slice none 0 0⟩,none,.slice none 0 0⟩,rfl,?_,HB.out.alloc (by omega) _⟩
 refine ⟨bx_new _ _ _ (by omega),HD.out.alloc _,rfl,?_,fun b e => (by cases e),fun g e => (by cases e),⟨by omega,by simp; omega⟩,?_,fun b e => (by cases e),fun g e => (by cases e)⟩
 ·rintro (e | e) <;> omega
 ·rintro k (e | e)
  ·exact ⟨by omega,by simp; omega⟩
  ·exact ⟨by omega,by simp; omega⟩
theorem create_arg {d : Dk} {a b c : Int} (h : wellB a b c = false) : d.create a b c = (1,d) := by unfold Dk.create; rw [if_pos h]
theorem create_down {d : Dk} {a b c : Int} (h : wellB a b c = true) (hd : d.down = true) : d.create a b c = (7,d) := by unfold Dk.create; rw [if_neg (by simp [h]),if_pos hd]
theorem create_there {d : Dk} {a b c : Int} (h : wellB a b c = true) (hd : d.down = false) (hf : d.f0.isSome = true) : d.create a b c = (5,d) := by unfold Dk.create; rw [if_neg (by simp [h]),if_neg (by simp [hd]),if_pos hf]
theorem create_makes {d : Dk} {a b c : Int} (h : wellB a b c = true) (hd : d.down = false) (hf : d.f0.isSome = false) : d.create a b c = d.opening a.toNat [stMake 0,stAppend 0 (headL a.toNat b.toNat c.toNat),stSync 0] := by unfold Dk.create; rw [if_neg (by simp [h]),if_neg (by simp [hd]),if_neg (by simp [hf])]
theorem make_log (w : World) : Calls Tryz.prog 54 #[.string ⟨#[108,111,103]⟩] w (Made w (stMake 0) none) := by
 rw [S_log]
 exact makeS_any 0 w (by omega)
theorem create_not (E : Sent) (n : Nat) (G : Nat -> Prop) (bs : Nat) (d : Dk) (q : StP) (a b c : Int) (w : World) (hE : Env0 n w E) (hS : StoreAt w G bs d q) (h : wellB a b c = false \/ d.down = true \/ d.f0.isSome = true) :
  Calls Tryz.prog 36 #[.pointer (some ⟨bs,0,none⟩),.agg #[.int .i64 a,.int .i64 b,.int .i64 c]] w fun e w' => e = .returned (.int .i64 (d.create a b c).1) /\ Done E G bs w (d.create a b c).2 w' := by
 have HS0 : Hid (∀ w1 : World,Below w.heap.size w w1 -> Done E G bs w d w1) := fun w1 hb => ⟨⟨q,(hS.below hb).mono (fun k h => .inl h)⟩,Chg.of_below hb⟩
 obtain ⟨W,hW⟩ : ∃ W : World,W = w.alloc (.cells #[.int .i64 a,.int .i64 b,.int .i64 c] 29) := ⟨_,rfl⟩
 have hB0 : Below w.heap.size w W := by rw [hW]; exact (Below.refl _ _).alloc (Nat.le_refl _) _
 have HB0 : Hid (∀ w1 : World,Below W.heap.size W w1 -> Below w.heap.size w w1) := fun w1 hb => hB0.trans (hb.mono hB0.size)
 have HIC := isConfig_any a b c W
 have HC0 : Hid (∀ w1 : World,Below w.heap.size w w1 -> w1.cell? ⟨bs,0,none⟩ = some (.pointer (some ⟨q.bd,0,none⟩))) := fun w1 hb => (hS.box.below hb hS.box.lt).cell (j := 0) rfl
 have HHA : Hid (∀ w1 : World,Below w.heap.size w w1 -> _) := fun w1 hb => has_any E n q.Fd q.bd d q.p ⟨#[108,111,103]⟩ w1 (hE.chg (F := fun _ => False) (Chg.of_below hb) (fun _ h => h.elim)) (hS.disk.below hb) (by decide)
 have HEV : Hid (∀ w1 : World,Below w.heap.size w w1 -> Env w1 E) := fun w1 hb => hE.env.below hb
 cases hw : wellB a b c with
 | false =>
  rw [hw] at HIC
  have HA : Hid (d.create a b c = (1,d)) := create_arg hw
  subst hW
  clear hE hS hB0 h
  go_enter Tryz.func36,Tryz.ntmps36
  go_wp2_with (first | (go_at_call 68; refine HIC.mono ?_; rintro e w1 ⟨rfl,hb⟩; have HB : Hid (Below w.heap.size w w1) := HB0.out w1 hb; clear hb))
  go_ret
  exact ⟨by rw [HA.out]; rfl,by rw [HA.out]; exact HS0.out _ HB.out⟩
 | true =>
  rw [hw] at HIC
  cases hd : d.down with
  | true =>
   rw [hd] at HHA
   simp only [if_true,Bool.not_true,Bool.false_and] at HHA
   have HA : Hid (d.create a b c = (7,d)) := create_down hw hd
   subst hW
   clear hE hS hB0 h
   go_enter Tryz.func36,Tryz.ntmps36
   go_wp2_with (first | (go_at_call 68; refine HIC.mono ?_; rintro e w1 ⟨rfl,hb⟩; have HB : Hid (Below w.heap.size w w1) := HB0.out w1 hb; have k0 := HC0.out w1 HB.out; clear hb) | (go_at_call 69; refine (HHA.out w1 HB.out).mono ?_; rintro e w2 ⟨ev,rfl,hf,hb⟩; obtain ⟨fb,rfl⟩ := fault_some hf (by decide); have HB2 : Hid (Below w.heap.size w w2) := HB.out.trans (hb.mono HB.out.size); have HFA : Hid (FaultIs w2 E 7 (.iface 128 (.pointer (some ⟨fb,0,none⟩)))) := hf; clear hf hb) | (go_at_call 41; refine (answer_any E 7 _ w2 (HEV.out w2 HB2.out) HFA.out (by decide)).mono ?_; rintro e w3 ⟨rfl,hb3⟩))
   go_ret
   exact ⟨by rw [HA.out]; rfl,by rw [HA.out]; exact HS0.out _ (HB2.out.trans (hb3.mono HB2.out.size))⟩
  | false =>
   rw [hd] at HHA
   have hf0 : d.f0.isSome = true := by
    rcases h with h | h | h
    ·rw [hw] at h; cases h
    ·rw [hd] at h; cases h
    ·exact h
   have hfn : (d.file (nameN (⟨#[108,111,103]⟩ : ByteArray).data.toList)).isSome = true := hf0
   rw [hfn] at HHA
   simp only [Bool.false_eq_true,if_false,Bool.not_false,Bool.true_and] at HHA
   have HA : Hid (d.create a b c = (5,d)) := create_there hw hd hf0
   subst hW
   clear hE hS hB0 h hf0 hfn
   go_enter Tryz.func36,Tryz.ntmps36
   go_wp2_with (first | (go_at_call 68; refine HIC.mono ?_; rintro e w1 ⟨rfl,hb⟩; have HB : Hid (Below w.heap.size w w1) := HB0.out w1 hb; have k0 := HC0.out w1 HB.out; clear hb) | (go_at_call 69; refine (HHA.out w1 HB.out).mono ?_; rintro e w2 ⟨ev,rfl,hf,hb⟩; obtain rfl := fault_nil hf; have HB2 : Hid (Below w.heap.size w w2) := HB.out.trans (hb.mono HB.out.size); clear hf hb))
   go_ret
   exact ⟨by rw [HA.out]; rfl,by rw [HA.out]; exact HS0.out _ HB2.out⟩
theorem steps_three {w4 : World} {F : Nat -> Prop} {sa sb sc : St} {a1 a2 b1 b2 c1 c2 : ByteArray} {ka kb kc : Nat} {ca cb cc : Array Value} (hF : ∀ q,F q -> q < w4.heap.size) (ha : TakeAt w4 F sa (.func (.func ka) #[] ca)) (hb : TakeAt w4 F sb (.func (.func kb) #[] cb)) (hc : TakeAt w4 F sc (.func (.func kc) #[] cc)) (fa : StFine sa) (fb : StFine sb) (fc : StFine sc) :
  StepsAt (w4.alloc (.cells #[.string a1,.string a2,.func (.func ka) #[] ca,.string b1,.string b2,.func (.func kb) #[] cb,.string c1,.string c2,.func (.func kc) #[] cc] 86)) F w4.heap.size #[.string a1,.string a2,.func (.func ka) #[] ca,.string b1,.string b2,.func (.func kb) #[] cb,.string c1,.string c2,.func (.func kc) #[] cc] [sa,sb,sc] := by
 have hB := ((Below.refl w4.heap.size w4).alloc (Nat.le_refl _) (.cells #[.string a1,.string a2,.func (.func ka) #[] ca,.string b1,.string b2,.func (.func kb) #[] cb,.string c1,.string c2,.func (.func kc) #[] cc] 86))
 have tk : ∀ {s : St} {v : Value},TakeAt w4 F s v -> TakeAt (w4.alloc (.cells #[.string a1,.string a2,.func (.func ka) #[] ca,.string b1,.string b2,.func (.func kb) #[] cb,.string c1,.string c2,.func (.func kc) #[] cc] 86)) F s v := fun h => h.turn (Chg.of_below (F := fun _ => False) hB) (fun _ h => h.elim) (fun _ _ h => h)
 refine ⟨bx_new w4 _ _ rfl,fun h => absurd (hF _ h) (by omega),?_⟩
 intro j s hj
 match j,hj with
 | 0,hj => cases hj; exact ⟨a1,a2,_,rfl,rfl,rfl,tk ha,fa⟩
 | 1,hj => cases hj; exact ⟨b1,b2,_,rfl,rfl,rfl,tk hb,fb⟩
 | 2,hj => cases hj; exact ⟨c1,c2,_,rfl,rfl,rfl,tk hc,fc⟩
 | j + 3,hj => simp at hj
theorem create_call {E : Sent} {n : Nat} {G : Nat -> Prop} {bs : Nat} {d : Dk} {q : StP} {blk seed bits g : Nat} {t : List UInt8} {w w0 w1 w2 w3 w4 : World} {a1 a2 b1 b2 c1 c2 : ByteArray} {ka kb kc : Nat} {ca cb cc : Array Value} (hE : Env0 n w E) (hG : ∀ k,G k -> n <= k /\ k < w.heap.size) (hS : StoreAt w G bs d q) (hok : DkOk d) (hup : d.down = false) (h0 : Below w.heap.size w w0)
  (ha : ∀ F : Nat -> Prop,(∀ q,F q -> q < w0.heap.size) -> (∀ q,(none : Option Nat) = some q -> ¬ F q) -> TakeAt w1 F (stMake 0) (.func (.func ka) #[] ca)) (h1 : Below w0.heap.size w0 w1) (h2 : Below w1.heap.size w1 w2) (hg : w.heap.size <= g)
  (hb : ∀ F : Nat -> Prop,(∀ q,F q -> q < w2.heap.size) -> (∀ q,some g = some q -> ¬ F q) -> TakeAt w3 F (stAppend 0 t) (.func (.func kb) #[] cb)) (h3 : Below w2.heap.size w2 w3)
  (hc : ∀ F : Nat -> Prop,(∀ q,F q -> q < w3.heap.size) -> (∀ q,(none : Option Nat) = some q -> ¬ F q) -> TakeAt w4 F (stSync 0) (.func (.func kc) #[] cc)) (h4 : Below w3.heap.size w3 w4) :
  Calls Tryz.prog 70 #[.pointer (some ⟨bs,0,none⟩),.agg #[.int .i64 (blk : Int),.int .i64 (seed : Int),.int .i64 (bits : Int)],.slice (some ⟨w4.heap.size,0,none⟩) 3 3] (w4.alloc (.cells #[.string a1,.string a2,.func (.func ka) #[] ca,.string b1,.string b2,.func (.func kb) #[] cb,.string c1,.string c2,.func (.func kc) #[] cc] 86)) fun e w' => e = .returned (.int .i64 (d.opening blk [stMake 0,stAppend 0 t,stSync 0]).1) /\ Done E G bs w (d.opening blk [stMake 0,stAppend 0 t,stSync 0]).2 w' /\ Chg G (w4.alloc (.cells #[.string a1,.string a2,.func (.func ka) #[] ca,.string b1,.string b2,.func (.func kb) #[] cb,.string c1,.string c2,.func (.func kc) #[] cc] 86)) w' := by
 have z0 := h0.size
 have z1 := h1.size
 have z2 := h2.size
 have z3 := h3.size
 have z4 := h4.size
 have hF : ∀ x,q.Fd x -> x < w.heap.size := fun x hx => (hG x (hS.gd x hx)).2
 have B1 : Below w.heap.size w w1 := h0.trans (h1.mono z0)
 have B2 : Below w.heap.size w w2 := B1.trans (h2.mono (by omega))
 have B3 : Below w.heap.size w w3 := B2.trans (h3.mono (by omega))
 have B4 : Below w.heap.size w w4 := B3.trans (h4.mono (by omega))
 have B5 : Below w.heap.size w (w4.alloc (.cells #[.string a1,.string a2,.func (.func ka) #[] ca,.string b1,.string b2,.func (.func kb) #[] cb,.string c1,.string c2,.func (.func kc) #[] cc] 86)) := B4.alloc (by omega) _
 have ta := ha q.Fd (fun x hx => by have := hF x hx; omega) (fun x e => (by cases e))
 have ta4 : TakeAt w4 q.Fd (stMake 0) (.func (.func ka) #[] ca) := ta.turn (Chg.of_below (F := fun _ => False) (h2.trans ((h3.mono z2).trans (h4.mono (by omega))))) (fun _ h => h.elim) (fun _ _ h => h)
 have tb := hb q.Fd (fun x hx => by have := hF x hx; omega) (fun x e hf => by cases e; have := hF _ hf; omega)
 have tb4 : TakeAt w4 q.Fd (stAppend 0 t) (.func (.func kb) #[] cb) := tb.turn (Chg.of_below (F := fun _ => False) h4) (fun _ h => h.elim) (fun _ _ h => h)
 have tc := hc q.Fd (fun x hx => by have := hF x hx; omega) (fun x e => (by cases e))
 have hT := steps_three (a1 := a1) (a2 := a2) (b1 := b1) (b2 := b2) (c1 := c1) (c2 := c2) (F := q.Fd) (fun x hx => by have := hF x hx; omega) ta4 tb4 tc ⟨by simp [stMake],by simp [stMake],by simp [stMake]⟩ ⟨by simp [stAppend],by simp [stAppend],by simp [stAppend]⟩ stSync_fine
 exact (sopen_any E n G bs d q blk seed bits w4.heap.size 3 _ [stMake 0,stAppend 0 t,stSync 0] _ (hE.chg (F := fun _ => False) (Chg.of_below B5) (fun _ h => h.elim)) (fun k hk => ⟨(hG k hk).1,Nat.lt_of_lt_of_le (hG k hk).2 B5.size⟩) (hS.below B5) hok hup hT (by simp) (by simp)).mono fun e w' ⟨e1,e2⟩ => ⟨e1,e2.later B5,e2.2⟩
theorem crS_next {b : Nat} {x y z : Value} {wx w' : World} (h : wx.cell? ⟨b,0,none⟩ = some x /\ wx.cell? ⟨b,1,none⟩ = some y /\ wx.cell? ⟨b,2,none⟩ = some z) (hb : Below wx.heap.size wx w') : w'.cell? ⟨b,0,none⟩ = some x /\ w'.cell? ⟨b,1,none⟩ = some y /\ w'.cell? ⟨b,2,none⟩ = some z := by
 obtain ⟨h1,h4,h5⟩ := h
 have f : ∀ {k j : Nat} {x : Value},wx.cell? ⟨k,j,none⟩ = some x -> w'.cell? ⟨k,j,none⟩ = some x := fun {k j x} hx => by
  have hlt := cell_lt (p := ⟨k,j,none⟩) hx
  rw [<- hx]
  unfold World.cell?
  rw [hb.block k hlt]
 exact ⟨f h1,f h4,f h5⟩
theorem crS_chg {b : Nat} {x y z : Value} {G : Nat -> Prop} {wx w' : World} (h : wx.cell? ⟨b,0,none⟩ = some x /\ wx.cell? ⟨b,1,none⟩ = some y /\ wx.cell? ⟨b,2,none⟩ = some z) (hb : Chg G wx w') (hn : ¬ G b) : w'.cell? ⟨b,0,none⟩ = some x /\ w'.cell? ⟨b,1,none⟩ = some y /\ w'.cell? ⟨b,2,none⟩ = some z := by
 obtain ⟨h1,h4,h5⟩ := h
 have hlt := cell_lt (p := ⟨b,0,none⟩) h1
 have f : ∀ {j : Nat} {x : Value},wx.cell? ⟨b,j,none⟩ = some x -> w'.cell? ⟨b,j,none⟩ = some x := fun {j x} hx => by
  rw [<- hx]
  unfold World.cell?
  rw [hb.keep b hlt hn]
 exact ⟨f h1,f h4,f h5⟩
theorem create_new (E : Sent) (n : Nat) (G : Nat -> Prop) (bs : Nat) (d : Dk) (q : StP) (a b c : Nat) (w : World) (hE : Env0 n w E) (hG : ∀ k,G k -> n <= k /\ k < w.heap.size) (hS : StoreAt w G bs d q) (hok : DkOk d) (hw : wellB a b c = true) (hd : d.down = false) (hf : d.f0.isSome = false) :
  Calls Tryz.prog 36 #[.pointer (some ⟨bs,0,none⟩),.agg #[.int .i64 (a : Int),.int .i64 (b : Int),.int .i64 (c : Int)]] w fun e w' => e = .returned (.int .i64 (d.create a b c).1) /\ Done E G bs w (d.create a b c).2 w' := by
 have hwb := hw
 unfold wellB at hwb
 simp only [Bool.and_eq_true,decide_eq_true_eq] at hwb
 obtain ⟨W,hW⟩ : ∃ W : World,W = w.alloc (.cells #[.int .i64 (a : Int),.int .i64 (b : Int),.int .i64 (c : Int)] 29) := ⟨_,rfl⟩
 have hB0 : Below w.heap.size w W := by rw [hW]; exact (Below.refl _ _).alloc (Nat.le_refl _) _
 have hx : Bx W w.heap.size #[.int .i64 (a : Int),.int .i64 (b : Int),.int .i64 (c : Int)] 29 := by rw [hW]; exact bx_new w _ _ rfl
 have hzW : W.heap.size = w.heap.size + 1 := by rw [hW]; simp
 have HIC := isConfig_any a b c W
 rw [hw] at HIC
 have HC0 : Hid (∀ w1 : World,Below (w.heap.size + 1) W w1 -> w1.cell? ⟨bs,0,none⟩ = some (.pointer (some ⟨q.bd,0,none⟩)) /\ (w1.cell? ⟨w.heap.size,0,none⟩ = some (.int .i64 (a : Int)) /\ w1.cell? ⟨w.heap.size,1,none⟩ = some (.int .i64 (b : Int)) /\ w1.cell? ⟨w.heap.size,2,none⟩ = some (.int .i64 (c : Int))) /\ Below w.heap.size w w1 /\ w.heap.size + 1 <= w1.heap.size) := fun w1 hb => by
  have hb1 : Below w.heap.size w w1 := hB0.trans (hb.mono (by omega))
  have h1 := hx.below hb (by omega)
  exact ⟨(hS.box.below hb1 hS.box.lt).cell (j := 0) rfl,⟨h1.cell (j := 0) rfl,h1.cell (j := 1) rfl,h1.cell (j := 2) rfl⟩,hb1,by have := hb.size; omega⟩
 have HHA : Hid (∀ w1 : World,Below w.heap.size w w1 -> _) := fun w1 hb => has_any E n q.Fd q.bd d q.p ⟨#[108,111,103]⟩ w1 (hE.chg (F := fun _ => False) (Chg.of_below hb) (fun _ h => h.elim)) (hS.disk.below hb) (by decide)
 rw [hd] at HHA
 have hfn : (d.file (nameN (⟨#[108,111,103]⟩ : ByteArray).data.toList)).isSome = false := hf
 rw [hfn] at HHA
 simp only [Bool.false_eq_true,if_false,Bool.not_false,Bool.true_and] at HHA
 have HHD : Hid (∀ wx : World,Below w.heap.size w wx -> Calls Tryz.prog 71 #[.agg #[.int .i64 (a : Int),.int .i64 (b : Int),.int .i64 (c : Int)]] wx fun e w' => ∃ g cp,e = .returned (.slice (some ⟨g,0,none⟩) (headL a b c).length cp) /\ w'.ownsRow 0 5 1 (.slice (some ⟨g,0,none⟩) (headL a b c).length cp) (headL a b c).length (cellsB (headL a b c)) /\ wx.heap.size <= g /\ Below wx.heap.size wx w') := fun wx hb => by
  refine (recHeadB_any a b c wx (by omega) (by omega) (by omega) (hE.env.halves.below hb hE.env.halves.1)).mono ?_
  rintro e w' ⟨v,rfl,hr,hb'⟩
  obtain ⟨g,cp,rfl,hgl,_⟩ := hr.form (by rw [headL_length]; omega)
  exact ⟨g,cp,rfl,own_lower hr (Nat.zero_le _),hgl,hb'⟩
 have HAP : Hid (∀ (w1 : World) (g cp : Nat),w1.ownsRow 0 5 1 (.slice (some ⟨g,0,none⟩) (headL a b c).length cp) (headL a b c).length (cellsB (headL a b c)) -> Calls Tryz.prog 55 #[.string ⟨#[108,111,103]⟩,.slice (some ⟨g,0,none⟩) (headL a b c).length cp] w1 (Made w1 (stAppend 0 (headL a b c)) (some g))) := fun w1 g cp hr => append_log g cp _ w1 hr (by rw [headL_length]; omega) (by rw [headL_length]; omega)
 have HA : Hid (d.create a b c = d.opening a [stMake 0,stAppend 0 (headL a b c),stSync 0]) := create_makes hw hd hf
 have HE : Hid (Env0 n w E) := hE
 have HG : Hid (∀ k,G k -> n <= k /\ k < w.heap.size) := hG
 have HS : Hid (StoreAt w G bs d q) := hS
 have HOK : Hid (DkOk d) := hok
 rw [hzW] at HIC
 subst hW
 have HNG : Hid (¬ G w.heap.size) := fun h => by have := (HG.out _ h).2; omega
 clear hE hG hS hok hB0 hx hzW hfn hf hwb
 go_enter Tryz.func36,Tryz.ntmps36
 go_wp2_with (first | (go_at_call 68; refine HIC.mono ?_; rintro e w1 ⟨rfl,hb⟩; obtain ⟨k0,kk,hbb,hzz⟩ := HC0.out w1 hb; have HB1 : Hid (Below (w.heap.size + 1) _ w1) := hb; have HB : Hid (Below w.heap.size w w1) := hbb; clear hb hbb kk) | (go_at_call 69; refine (HHA.out w1 HB.out).mono ?_; rintro e w2 ⟨ev,rfl,hf,hb⟩; obtain rfl := fault_nil hf; obtain ⟨_,kk,hbb2,_⟩ := HC0.out w2 (HB1.out.trans (hb.mono hzz)); have HB2 : Hid (Below w.heap.size w w2) := hbb2; clear hf hb k0 hbb2))
 go_region_held3 (fun w' => w'.cell? ⟨w.heap.size,0,none⟩ = some (.int .i64 (a : Int)) /\ w'.cell? ⟨w.heap.size,1,none⟩ = some (.int .i64 (b : Int)) /\ w'.cell? ⟨w.heap.size,2,none⟩ = some (.int .i64 (c : Int))) (first | (exact kk) | (assumption) | (exact crS_next (by assumption) (by assumption)) | (exact crS_next (by assumption) ((Below.refl _ _).alloc (Nat.le_refl _) _)) | (exact crS_chg (by assumption) (by assumption) HNG.out)) (first | (go_at_call 54; refine (make_log _).mono ?_; rintro e wm ⟨sa,sa2,ka,ca,rfl,hTa,hba⟩) | (go_at_call 71; refine (HHD.out wm ?_).mono ?_; exact HB2.out.drew.trans (hba.mono HB2.out.size); rintro e wh ⟨g,cp,rfl,hrow,hgl,hbh⟩) | (go_at_call 55; refine (HAP.out wh g cp hrow).mono ?_; rintro e wa ⟨sb,sb2,kb,cb,rfl,hTb,hbb⟩) | (go_at_call 43; refine (sync_log wa).mono ?_; rintro e ws ⟨sc,sc2,kc,cc,rfl,hTc,hbc⟩) | (go_at_call 70; refine (create_call HE.out HG.out HS.out HOK.out hd HB2.out.drew hTa hba hbh (Nat.le_trans HB2.out.size (Nat.le_trans hba.size hgl)) hTb hbb hTc hbc).mono ?_; rintro e wo ⟨rfl,hdn,hchg⟩))
 all_goals
  go_wp2
  go_ret
  exact ⟨by rw [HA.out]; rfl,by rw [HA.out]; exact hdn⟩
end Go.Proofs.YtdhgebdbiehchaaGreatDoor
namespace Go.Proofs.YtdhgebdbiehchaaGreatDoor
open Go.RowKit Go.Maps
set_option linter.unusedVariables false
theorem create_any (E : Sent) (n : Nat) (G : Nat -> Prop) (bs : Nat) (d : Dk) (q : StP) (a b c : Int) (w : World) (hE : Env0 n w E) (hG : ∀ k,G k -> n <= k /\ k < w.heap.size) (hS : StoreAt w G bs d q) (hok : DkOk d) :
  Calls Tryz.prog 36 #[.pointer (some ⟨bs,0,none⟩),.agg #[.int .i64 a,.int .i64 b,.int .i64 c]] w fun e w' => e = .returned (.int .i64 (d.create a b c).1) /\ Done E G bs w (d.create a b c).2 w' := by
 by_cases h : wellB a b c = false \/ d.down = true \/ d.f0.isSome = true
 ·exact create_not E n G bs d q a b c w hE hS h
 ·have hw : wellB a b c = true := by cases hh : wellB a b c; exact absurd (.inl hh) h; rfl
  have hd : d.down = false := by cases hh : d.down; rfl; exact absurd (.inr (.inl hh)) h
  have hf : d.f0.isSome = false := by cases hh : d.f0.isSome; rfl; exact absurd (.inr (.inr hh)) h
  have hwb := hw
  unfold wellB at hwb
  simp only [Bool.and_eq_true,decide_eq_true_eq] at hwb
  obtain ⟨a',rfl⟩ := Int.eq_ofNat_of_zero_le (show 0 <= a by omega)
  obtain ⟨b',rfl⟩ := Int.eq_ofNat_of_zero_le (show 0 <= b by omega)
  obtain ⟨c',rfl⟩ := Int.eq_ofNat_of_zero_le (show 0 <= c by omega)
  exact create_new E n G bs d q a' b' c' w hE hG hS hok hw hd hf
end Go.Proofs.YtdhgebdbiehchaaGreatDoor
namespace Go.Proofs.YtdhgebdbiehchaaGreatDoor
open Go.RowKit Go.Maps
set_option linter.unusedSimpArgs false
set_option linter.unusedVariables false
set_option maxRecDepth 100000
set_option maxHeartbeats 1600000
theorem below_of_chg {n : Nat} {w w2 w' : World} {G : Nat -> Prop} (hb : Below n w w2) (hc : Chg G w2 w') (hG : ∀ k,G k -> n <= k) (hn : n <= w2.heap.size) : Below n w w' :=
 hb.trans ⟨hc.os,hc.tape,hc.output,hc.size,fun k hk => hc.keep k (by omega) (fun hg => absurd (hG k hg) (by omega))⟩
theorem headL_front (blk seed bits : Nat) (post : List UInt8) : (headL blk seed bits ++ post).take 2 = [76,71] := by
 unfold headL sealL
 rfl
theorem kbegun_any (E : Sent) (n : Nat) (blk seed bits : Nat) (w : World) (hE : Env0 n w E) (h1 : 1 <= blk) (h2 : blk <= 400) (h3 : seed <= 4294967295) (h4 : bits <= 32) :
  Calls Tryz.prog 13 #[.agg #[.int .i64 (blk : Int),.int .i64 (seed : Int),.int .i64 (bits : Int)]] w fun e w' => ∃ bs q,e = .returned (.pointer (some ⟨bs,0,none⟩)) /\ StoreAt w' (Gnew w w') bs (kdk blk seed bits [] 14 none []) q /\ Below w.heap.size w w' := by
 obtain ⟨hcr,hK⟩ := k_begun h1 h2 h3 h4
 have HD : Hid (∀ w1 : World,Below w.heap.size w w1 -> Calls Tryz.prog 35 #[.int .i64 100000] w1 fun e w' => ∃ bs q,e = .returned (.tuple #[.pointer (some ⟨bs,0,none⟩),.int .i64 0]) /\ StoreAt w' (Gnew w w') bs (dk0 100000) q /\ Below w.heap.size w w' /\ Below w1.heap.size w1 w') := fun w1 hb => by
  refine (disk_good 100000 w1 (by omega)).mono ?_
  rintro e w' ⟨bs,q,rfl,a1,a2⟩
  exact ⟨bs,q,rfl,a1.mono (fun k hk => ⟨Nat.le_trans hb.size hk.1,hk.2⟩),hb.trans (a2.mono hb.size),a2⟩
 have HC : Hid (∀ (w2 : World) (bs : Nat) (q : StP),Below w.heap.size w w2 -> StoreAt w2 (Gnew w w2) bs (dk0 100000) q -> Calls Tryz.prog 36 #[.pointer (some ⟨bs,0,none⟩),.agg #[.int .i64 (blk : Int),.int .i64 (seed : Int),.int .i64 (bits : Int)]] w2 fun e w' => e = .returned (.int .i64 0) /\ (∃ q',StoreAt w' (Gnew w w') bs (kdk blk seed bits [] 14 none []) q') /\ Below w.heap.size w w') := fun w2 bs q hb hS => by
  have hok : DkOk (dk0 100000) := DkOk.disk (room := 100000) rfl
  have := create_any E n (Gnew w w2) bs (dk0 100000) q blk seed bits w2 (hE.below (hb.mono hE.le)) (fun k hk => ⟨Nat.le_trans hE.le hk.1,hk.2⟩) hS hok
  refine this.mono ?_
  have hcr' : (dk0 100000).create (blk : Int) (seed : Int) (bits : Int) = (0,kdk blk seed bits [] 14 none []) := hcr
  rw [hcr']
  rintro e w' ⟨rfl,⟨q',b1⟩,b2⟩
  have hz := b2.size
  refine ⟨rfl,⟨q',b1.mono ?_⟩,?_⟩
  ·rintro k (hk | hk)
   ·exact ⟨hk.1,Nat.lt_of_lt_of_le hk.2 hz⟩
   ·exact ⟨Nat.le_trans hb.size hk.1,hk.2⟩
  ·exact below_of_chg hb b2 (fun k hk => hk.1) hb.size
 have HF : Hid (∀ (w3 : World) (bs : Nat) (q : StP),Below w.heap.size w w3 -> StoreAt w3 (Gnew w w3) bs (kdk blk seed bits [] 14 none []) q -> Calls Tryz.prog 19 #[.pointer (some ⟨bs,0,none⟩),.string ⟨#[108,111,103]⟩] w3 fun e w' => e = .returned (.tuple #[.string (S (headL blk seed bits)),.int .i64 0]) /\ (∃ q',StoreAt w' (Gnew w w') bs (kdk blk seed bits [] 14 none []) q') /\ Below w.heap.size w w') := fun w3 bs q hb hS => by
  refine (fileS_any E n (Gnew w w3) bs _ q ⟨#[108,111,103]⟩ w3 (hE.below (hb.mono hE.le)) hS (by decide)).mono ?_
  rintro e w' ⟨rfl,b2⟩
  refine ⟨?_,⟨q,(hS.below b2).mono (fun k hk => ⟨hk.1,Nat.lt_of_lt_of_le hk.2 b2.size⟩)⟩,hb.trans (b2.mono hb.size)⟩
  show Ending.returned (.tuple #[.string (S (headL blk seed bits ++ blocksB [])),.int .i64 0]) = _
  rw [show blocksB [] = [] from rfl,List.append_nil]
 have hl := headL_length blk seed bits
 have zl : (S (headL blk seed bits)).size = 14 := by rw [S_size,hl]
 have HCU : ∀ wx : World,(Instr.slice 9 (.string (S (headL blk seed bits))) none (some (.int .i64 2)) none).run Tryz.prog wx = .ok (.string (S [76,71])) wx := by
  intro wx
  have := cut_upto (S (headL blk seed bits)) 2 (by omega) 2 rfl wx
  rw [show (S (headL blk seed bits)).data.toList = headL blk seed bits from rfl] at this
  have e := headL_front blk seed bits []
  rw [List.append_nil] at e
  rw [e] at this
  exact this
 have hcmp : ((S [76,71]).toList == [76,71]) = true := by rw [ByteArray.toList_eq,S_data]; rfl
 generalize headL blk seed bits = hd at *
 clear hcr hK
 go_enter Tryz.func13,Tryz.ntmps13
 go_wp2_with (first | (go_at_call 35; refine (HD.out _ ?_).mono ?_; exact (Below.refl _ _).alloc (Nat.le_refl _) _; rintro e w2 ⟨bs,q,rfl,hS2,hb2,hb3⟩; have hx := (bx_new w #[.int .i64 (blk : Int),.int .i64 (seed : Int),.int .i64 (bits : Int)] 29 rfl).below hb3 (by simp); have x0 := hx.cell (j := 0) rfl; have x1 := hx.cell (j := 1) rfl; have x2 := hx.cell (j := 2) rfl; have HS2 : Hid (StoreAt w2 (Gnew w w2) bs (dk0 100000) q) := hS2; have HB2 : Hid (Below w.heap.size w w2) := hb2; clear hS2 hb2 hb3 hx) | (go_at_call 36; refine (HC.out w2 bs q HB2.out HS2.out).mono ?_; rintro e w3 ⟨rfl,⟨q3,hS3⟩,hb3⟩; have HS3 : Hid (StoreAt w3 (Gnew w w3) bs (kdk blk seed bits [] 14 none []) q3) := hS3; have HB3 : Hid (Below w.heap.size w w3) := hb3; clear hS3 hb3 x0 x1 x2) | (go_at_call 19; refine (HF.out w3 bs q3 HB3.out HS3.out).mono ?_; rintro e w4 ⟨rfl,⟨q4,hS4⟩,hb4⟩; have HS4 : Hid (StoreAt w4 (Gnew w w4) bs (kdk blk seed bits [] 14 none []) q4) := hS4; have HB4 : Hid (Below w.heap.size w w4) := hb4; clear hS4 hb4))
 go_ret
 exact ⟨bs,q4,rfl,HS4.out,HB4.out⟩
end Go.Proofs.YtdhgebdbiehchaaGreatDoor
