/- On the way: PBuild. -/
import Derived.Test.YtdhgebdbiehchaaGreatDoorB42
import Derived.Test.YtdhgebdbiehchaaGreatDoorB38
import Derived.Test.YtdhgebdbiehchaaGreatDoorB41
import Derived.Lib.ConvBytes
namespace Go.Proofs.YtdhgebdbiehchaaGreatDoor
open Go.RowKit Go.Maps
set_option linter.unusedSimpArgs false
set_option linter.unusedVariables false
set_option maxRecDepth 100000
set_option maxHeartbeats 3200000
theorem conv_bytes (l : List UInt8) : ∃ (cp : World -> Nat) (bw : World -> World),∀ wx : World,(convert 9 43 (.string (S l))).run Tryz.prog wx = .ok (.slice (some ⟨wx.heap.size,0,none⟩) l.length (cp wx)) (bw wx) /\ RowB (bw wx) wx.heap.size l /\ Below wx.heap.size wx (bw wx) /\ (bw wx).heap.size = wx.heap.size + 1 := by
 refine ⟨fun wx => grownCap wx (S l).size 0 5,fun wx => Go.Lib.bytesWorld wx 5 (S l),fun wx => ⟨?_,?_,?_,Go.Lib.bytesWorld_size _ _ _⟩⟩
 ·have := Go.Lib.run_convert_string_bytes (P := Tryz.prog) wx 9 43 5 (S l) Tryz.underlying9 Tryz.underlying43 Tryz.underlying5
  rw [S_size] at this
  rw [S_size]
  exact this
 ·refine ⟨by rw [Go.Lib.bytesWorld_size]; omega,fun j u hu => ?_⟩
  have hj : j < l.length := by
   have := (List.getElem?_eq_some_iff.1 hu).1
   rwa [cellsB_length] at this
  have hadd : (⟨wx.heap.size,0,none⟩ : Addr).add j = ⟨wx.heap.size,j,none⟩ := by
   unfold Addr.add
   split
   ·rename_i h; rw [h]
   ·simp
  rw [hadd,Go.Lib.bytesWorld_cell wx 5 (S l) j (by rw [S_size]; exact hj),S_data]
  rw [<- hu]
  simp [cellsB,hj]
 ·refine ⟨rfl,rfl,rfl,by rw [Go.Lib.bytesWorld_size]; omega,fun k hk => Go.Lib.bytesWorld_at_old wx _ _ k hk⟩
theorem S_new : (⟨#[110,101,119]⟩ : ByteArray) = S (nm 1) := rfl
theorem S_index : (⟨#[105,110,100,101,120]⟩ : ByteArray) = S (nm 2) := rfl
theorem make_new (w : World) : Calls Tryz.prog 54 #[.string ⟨#[110,101,119]⟩] w (Made w (stMake 1) none) := by
 rw [S_new]; exact makeS_any 1 w (by omega)
theorem sync_new (w : World) : Calls Tryz.prog 43 #[.string ⟨#[110,101,119]⟩] w (Made w (stSync 1) none) := by
 rw [S_new]; exact syncS_any 1 w (by omega)
theorem rename_new (w : World) : Calls Tryz.prog 56 #[.string ⟨#[110,101,119]⟩,.string ⟨#[105,110,100,101,120]⟩] w (Made w (stRename 1 2) none) := by
 rw [S_new,S_index]; exact renameS_any 1 2 w (by omega) (by omega)
theorem append_new (g cp : Nat) (t : List UInt8) (w : World) (hr : RowB w g t) (hp : 0 < t.length) (hl : t.length <= 1000000000) : Calls Tryz.prog 55 #[.string ⟨#[110,101,119]⟩,.slice (some ⟨g,0,none⟩) t.length cp] w (Made w (stAppend 1 t) (some g)) := by
 rw [S_new]; exact appendS_any 1 g cp t w (by omega) hr hp hl
theorem steps_four {w4 : World} {F : Nat -> Prop} {sa sb sc sd : St} {a1 a2 b1 b2 c1 c2 d1 d2 : ByteArray} {ka kb kc kd : Nat} {ca cb cc cd : Array Value} (hF : ∀ q,F q -> q < w4.heap.size) (ha : TakeAt w4 F sa (.func (.func ka) #[] ca)) (hb : TakeAt w4 F sb (.func (.func kb) #[] cb)) (hc : TakeAt w4 F sc (.func (.func kc) #[] cc)) (hd : TakeAt w4 F sd (.func (.func kd) #[] cd)) (fa : StFine sa) (fb : StFine sb) (fc : StFine sc) (fd : StFine sd) :
  StepsAt (w4.alloc (.cells #[.string a1,.string a2,.func (.func ka) #[] ca,.string b1,.string b2,.func (.func kb) #[] cb,.string c1,.string c2,.func (.func kc) #[] cc,.string d1,.string d2,.func (.func kd) #[] cd] 86)) F w4.heap.size #[.string a1,.string a2,.func (.func ka) #[] ca,.string b1,.string b2,.func (.func kb) #[] cb,.string c1,.string c2,.func (.func kc) #[] cc,.string d1,.string d2,.func (.func kd) #[] cd] [sa,sb,sc,sd] := by
 have hB := ((Below.refl w4.heap.size w4).alloc (Nat.le_refl _) (.cells #[.string a1,.string a2,.func (.func ka) #[] ca,.string b1,.string b2,.func (.func kb) #[] cb,.string c1,.string c2,.func (.func kc) #[] cc,.string d1,.string d2,.func (.func kd) #[] cd] 86))
 refine ⟨bx_new w4 _ _ rfl,fun h => absurd (hF _ h) (by omega),?_⟩
 intro j s hj
 match j,hj with
 | 0,hj => cases hj; exact ⟨a1,a2,_,rfl,rfl,rfl,ha.turn (Chg.of_below (F := fun _ => False) hB) (fun _ h => h.elim) (fun _ _ h => h),fa⟩
 | 1,hj => cases hj; exact ⟨b1,b2,_,rfl,rfl,rfl,hb.turn (Chg.of_below (F := fun _ => False) hB) (fun _ h => h.elim) (fun _ _ h => h),fb⟩
 | 2,hj => cases hj; exact ⟨c1,c2,_,rfl,rfl,rfl,hc.turn (Chg.of_below (F := fun _ => False) hB) (fun _ h => h.elim) (fun _ _ h => h),fc⟩
 | 3,hj => cases hj; exact ⟨d1,d2,_,rfl,rfl,rfl,hd.turn (Chg.of_below (F := fun _ => False) hB) (fun _ h => h.elim) (fun _ _ h => h),fd⟩
 | j + 4,hj => simp at hj
theorem build_call {E : Sent} {n : Nat} {G : Nat -> Prop} {bs : Nat} {d : Dk} {q : StP} {g : Nat} {t : List UInt8} {w w0 w1 w2 w3 w4 w5 : World} {a1 a2 b1 b2 c1 c2 d1 d2 : ByteArray} {ka kb kc kd : Nat} {ca cb cc cd : Array Value} (hE : Env0 n w E) (hG : ∀ k,G k -> n <= k /\ k < w.heap.size) (hS : StoreAt w G bs d q) (hok : DkOk d) (hup : d.down = false) (h0 : Below w.heap.size w w0)
  (ha : ∀ F : Nat -> Prop,(∀ q,F q -> q < w0.heap.size) -> (∀ q,(none : Option Nat) = some q -> ¬ F q) -> TakeAt w1 F (stMake 1) (.func (.func ka) #[] ca)) (h1 : Below w0.heap.size w0 w1) (h2 : Below w1.heap.size w1 w2) (hg : w.heap.size <= g)
  (hb : ∀ F : Nat -> Prop,(∀ q,F q -> q < w2.heap.size) -> (∀ q,some g = some q -> ¬ F q) -> TakeAt w3 F (stAppend 1 t) (.func (.func kb) #[] cb)) (h3 : Below w2.heap.size w2 w3)
  (hc : ∀ F : Nat -> Prop,(∀ q,F q -> q < w3.heap.size) -> (∀ q,(none : Option Nat) = some q -> ¬ F q) -> TakeAt w4 F (stSync 1) (.func (.func kc) #[] cc)) (h4 : Below w3.heap.size w3 w4)
  (hd : ∀ F : Nat -> Prop,(∀ q,F q -> q < w4.heap.size) -> (∀ q,(none : Option Nat) = some q -> ¬ F q) -> TakeAt w5 F (stRename 1 2) (.func (.func kd) #[] cd)) (h5 : Below w4.heap.size w4 w5) :
  Calls Tryz.prog 42 #[.pointer (some ⟨bs,0,none⟩),.slice (some ⟨w5.heap.size,0,none⟩) 4 4] (w5.alloc (.cells #[.string a1,.string a2,.func (.func ka) #[] ca,.string b1,.string b2,.func (.func kb) #[] cb,.string c1,.string c2,.func (.func kc) #[] cc,.string d1,.string d2,.func (.func kd) #[] cd] 86)) fun e w' => ∃ v,e = .returned v /\ FaultIs w' E (d.steps [stMake 1,stAppend 1 t,stSync 1,stRename 1 2]).1 v /\ Done E G bs w (d.steps [stMake 1,stAppend 1 t,stSync 1,stRename 1 2]).2 w' := by
 have z0 := h0.size
 have z1 := h1.size
 have z2 := h2.size
 have z3 := h3.size
 have z4 := h4.size
 have z5 := h5.size
 have hF : ∀ x,q.Fd x -> x < w.heap.size := fun x hx => (hG x (hS.gd x hx)).2
 have B1 : Below w.heap.size w w1 := h0.trans (h1.mono z0)
 have B2 : Below w.heap.size w w2 := B1.trans (h2.mono (by omega))
 have B3 : Below w.heap.size w w3 := B2.trans (h3.mono (by omega))
 have B4 : Below w.heap.size w w4 := B3.trans (h4.mono (by omega))
 have B5 : Below w.heap.size w w5 := B4.trans (h5.mono (by omega))
 have B6 : Below w.heap.size w (w5.alloc (.cells #[.string a1,.string a2,.func (.func ka) #[] ca,.string b1,.string b2,.func (.func kb) #[] cb,.string c1,.string c2,.func (.func kc) #[] cc,.string d1,.string d2,.func (.func kd) #[] cd] 86)) := B5.alloc (by omega) _
 have nf : ∀ {x y : World},Below x.heap.size x y -> ∀ {s : St} {v : Value},TakeAt x q.Fd s v -> TakeAt y q.Fd s v := fun hb _ _ h => h.turn (Chg.of_below (F := fun _ => False) hb) (fun _ h => h.elim) (fun _ _ h => h)
 have ta := nf (h2.trans ((h3.mono z2).trans ((h4.mono (by omega)).trans (h5.mono (by omega))))) (ha q.Fd (fun x hx => by have := hF x hx; omega) (fun x e => (by cases e)))
 have tb := nf (h4.trans (h5.mono z4)) (hb q.Fd (fun x hx => by have := hF x hx; omega) (fun x e hf => by cases e; have := hF _ hf; omega))
 have tc := nf h5 (hc q.Fd (fun x hx => by have := hF x hx; omega) (fun x e => (by cases e)))
 have td := hd q.Fd (fun x hx => by have := hF x hx; omega) (fun x e => (by cases e))
 have hT := steps_four (a1 := a1) (a2 := a2) (b1 := b1) (b2 := b2) (c1 := c1) (c2 := c2) (d1 := d1) (d2 := d2) (F := q.Fd) (fun x hx => by have := hF x hx; omega) ta tb tc td ⟨by simp [stMake],by simp [stMake],by simp [stMake]⟩ ⟨by simp [stAppend],by simp [stAppend],by simp [stAppend]⟩ ⟨by simp [stSync],by simp [stSync],by simp [stSync]⟩ ⟨by simp [stRename],by simp [stRename],by simp [stRename]⟩
 exact (storeDo_any E n G bs d q w5.heap.size 4 _ [stMake 1,stAppend 1 t,stSync 1,stRename 1 2] _ (hE.chg (F := fun _ => False) (Chg.of_below B6) (fun _ h => h.elim)) (fun k hk => ⟨(hG k hk).1,Nat.lt_of_lt_of_le (hG k hk).2 B6.size⟩) (hS.below B6) hok hup hT (by simp) (by simp)).mono fun e w' ⟨v,e1,e2,e3⟩ => ⟨v,e1,e2,e3.later B6⟩
theorem indexS_pos {log l : List UInt8} (h : indexS log = some l) : 0 < l.length := by
 unfold indexS at h
 split at h
 ·cases h
 split at h
 ·cases h
 split at h
 ·cases h
 split at h
 ·cases h
 have h := Option.some.inj h
 subst h
 unfold indexB
 rw [List.length_append,sealL_length]
 omega
theorem build_any (E : Sent) (n : Nat) (G : Nat -> Prop) (bs : Nat) (d : Dk) (q : StP) (w : World) (hE : Env0 n w E) (hG : ∀ k,G k -> n <= k /\ k < w.heap.size) (hS : StoreAt w G bs d q) (hok : DkOk d) :
  Calls Tryz.prog 27 #[.pointer (some ⟨bs,0,none⟩)] w fun e w' => e = .returned (.int .i64 d.build.1) /\ Done E G bs w d.build.2 w' := by
 have c0 : w.cell? ⟨bs,0,none⟩ = some (.pointer (some ⟨q.bd,0,none⟩)) := hS.box.cell (j := 0) rfl
 have HR0 : Calls Tryz.prog 50 #[.pointer (some ⟨q.bd,0,none⟩),.string ⟨#[108,111,103]⟩] w fun e w' => ∃ ev,e = .returned (.tuple #[.string (S (d.fileR (nm 0)).1),ev]) /\ FaultIs w' E (d.fileR (nm 0)).2 ev /\ Below w.heap.size w w' := read_disk E n q.Fd q.bd d q.p ⟨#[108,111,103]⟩ w hE hS.disk (by decide)
 have HS0 : Hid (∀ w1 : World,Below w.heap.size w w1 -> Done E G bs w d w1) := fun w1 hb => ⟨⟨q,(hS.below hb).mono (fun k h => .inl h)⟩,Chg.of_below hb⟩
 have HEV : Hid (∀ w1 : World,Below w.heap.size w w1 -> Env w1 E) := fun w1 hb => hE.env.below hb
 cases hd : d.down with
 | true =>
  rw [fileR_dn hd] at HR0
  have HV : Hid (d.build = (7,d)) := by show _ = _; unfold Dk.build; rw [if_pos hd]
  clear hE hS hG hok
  go_enter Tryz.func27,Tryz.ntmps27
  go_wp2_with (first | (go_at_call 50; refine HR0.mono ?_; rintro e w1 ⟨ev,rfl,hf,hb⟩; obtain ⟨b,rfl⟩ := fault_some hf (by decide); have HFA : Hid (FaultIs w1 E 7 (.iface 128 (.pointer (some ⟨b,0,none⟩)))) := hf; have HB : Hid (Below w.heap.size w w1) := hb; clear hf hb) | (go_at_call 41; refine (answer_any E 7 _ w1 (HEV.out w1 HB.out) HFA.out (by decide)).mono ?_; rintro e w2 ⟨rfl,hb2⟩; have HB2 : Hid (Below w.heap.size w w2) := HB.out.trans (hb2.mono HB.out.size); clear hb2))
  go_ret
  exact ⟨by rw [HV.out]; rfl,by rw [HV.out]; exact HS0.out _ HB2.out⟩
 | false =>
  cases h0 : d.f0 with
  | none =>
   rw [fileR_no (i := 0) hd (by omega) h0] at HR0
   have HV : Hid (d.build = (2,d)) := by show _ = _; unfold Dk.build; rw [if_neg (by simp [hd]),h0]
   clear hE hS hG hok
   go_enter Tryz.func27,Tryz.ntmps27
   go_wp2_with (first | (go_at_call 50; refine HR0.mono ?_; rintro e w1 ⟨ev,rfl,hf,hb⟩; obtain ⟨b,rfl⟩ := fault_some hf (by decide); have HFA : Hid (FaultIs w1 E 2 (.iface 128 (.pointer (some ⟨b,0,none⟩)))) := hf; have HB : Hid (Below w.heap.size w w1) := hb; clear hf hb) | (go_at_call 41; refine (answer_any E 2 _ w1 (HEV.out w1 HB.out) HFA.out (by decide)).mono ?_; rintro e w2 ⟨rfl,hb2⟩; have HB2 : Hid (Below w.heap.size w w2) := HB.out.trans (hb2.mono HB.out.size); clear hb2))
   go_ret
   exact ⟨by rw [HV.out]; rfl,by rw [HV.out]; exact HS0.out _ HB2.out⟩
  | some f =>
   rw [fileR_up (i := 0) hd (by omega) h0] at HR0
   have hfl : f.text.length <= 100000 := by
    have h1 := hok.used
    have h2 := hok.room
    unfold Dk.used at h1
    rw [h0] at h1
    simp only [lenF] at h1
    omega
   have HIX : Hid (∀ w1 : World,Below w.heap.size w w1 -> Calls Tryz.prog 20 #[.string (S f.text)] w1 fun e w' => e = .returned (indexV (indexS f.text)) /\ Below w1.heap.size w1 w') := fun w1 hb => progIndex_any (S f.text) w1 (by rw [S_size]; omega) (HEV.out w1 hb).halves
   cases hix : indexS f.text with
   | none =>
    have HV : Hid (d.build = (3,d)) := by show _ = _; unfold Dk.build; rw [if_neg (by simp [hd]),h0]; simp only; rw [hix]
    rw [hix] at HIX
    unfold indexV at HIX
    dsimp only at HIX
    clear hE hS hG hok hfl hix
    go_enter Tryz.func27,Tryz.ntmps27
    go_wp2_with (first | (go_at_call 50; refine HR0.mono ?_; rintro e w1 ⟨ev,rfl,hf,hb⟩; obtain rfl := fault_nil hf; have HB : Hid (Below w.heap.size w w1) := hb; clear hf hb) | (go_at_call 20; refine (HIX.out w1 HB.out).mono ?_; rintro e w2 ⟨rfl,hb2⟩; have HB2 : Hid (Below w.heap.size w w2) := HB.out.trans (hb2.mono HB.out.size); clear hb2))
    go_ret
    exact ⟨by rw [HV.out]; rfl,by rw [HV.out]; exact HS0.out _ HB2.out⟩
   | some ix =>
    have HV : Hid (d.build = d.steps [stMake 1,stAppend 1 ix,stSync 1,stRename 1 2]) := by show _ = _; unfold Dk.build; rw [if_neg (by simp [hd]),h0]; simp only; rw [hix]
    have hp := indexS_pos hix
    have hl := indexS_short hix
    rw [hix] at HIX
    unfold indexV at HIX
    dsimp only at HIX
    obtain ⟨cpf,bwf,hcv⟩ := conv_bytes ix
    have hcv1 : ∀ wx : World,(convert 9 43 (.string (S ix))).run Tryz.prog wx = .ok (.slice (some ⟨wx.heap.size,0,none⟩) ix.length (cpf wx)) (bwf wx) := fun wx => (hcv wx).1
    have HCV : Hid (∀ wx : World,RowB (bwf wx) wx.heap.size ix /\ Below wx.heap.size wx (bwf wx)) := fun wx => ⟨(hcv wx).2.1,(hcv wx).2.2.1⟩
    have HAP : Hid (∀ wx : World,Calls Tryz.prog 55 #[.string ⟨#[110,101,119]⟩,.slice (some ⟨wx.heap.size,0,none⟩) ix.length (cpf wx)] (bwf wx) (Made (bwf wx) (stAppend 1 ix) (some wx.heap.size))) := fun wx => append_new _ _ ix _ (HCV.out wx).1 hp (by omega)
    have HCO := codes_answer (steps_codes d [stMake 1,stAppend 1 ix,stSync 1,stRename 1 2])
    have HEVD : Hid (∀ (w1 : World) (d' : Dk),Done E G bs w d' w1 -> Env w1 E) := fun w1 d' h => (done_env hE hG h).env
    have HE : Hid (Env0 n w E) := hE
    have HG : Hid (∀ k,G k -> n <= k /\ k < w.heap.size) := hG
    have HS : Hid (StoreAt w G bs d q) := hS
    have HOK : Hid (DkOk d) := hok
    clear hE hS hG hok hfl hix hcv hp hl HS0 h0
    go_enter Tryz.func27,Tryz.ntmps27
    go_wp2_with (first | (go_at_call 50; refine HR0.mono ?_; rintro e w1 ⟨ev,rfl,hf,hb⟩; obtain rfl := fault_nil hf; have HB : Hid (Below w.heap.size w w1) := hb; clear hf hb) | (go_at_call 20; refine (HIX.out w1 HB.out).mono ?_; rintro e w2 ⟨rfl,hb2⟩; have HB2 : Hid (Below w.heap.size w w2) := HB.out.trans (hb2.mono HB.out.size); clear hb2) | (go_at_call 54; refine (make_new w2).mono ?_; rintro e wm ⟨sa,sa2,ka,ca,rfl,hTa,hba⟩; have HTa : Hid _ := hTa; have HBa : Hid (Below w2.heap.size w2 wm) := hba; clear hTa hba) | (go_at_call 55; refine (HAP.out wm).mono ?_; rintro e wa ⟨sb,sb2,kb,cb,rfl,hTb,hbb⟩; have HTb : Hid _ := hTb; have HBb : Hid (Below (bwf wm).heap.size (bwf wm) wa) := hbb; clear hTb hbb) | (go_at_call 43; refine (sync_new wa).mono ?_; rintro e ws ⟨sc,sc2,kc,cc,rfl,hTc,hbc⟩; have HTc : Hid _ := hTc; have HBc : Hid (Below wa.heap.size wa ws) := hbc; clear hTc hbc) | (go_at_call 56; refine (rename_new ws).mono ?_; rintro e wn ⟨sd,sd2,kd,cd,rfl,hTd,hbd⟩; have HTd : Hid _ := hTd; have HBd : Hid (Below ws.heap.size ws wn) := hbd; clear hTd hbd) | (go_at_call 42; refine (build_call HE.out HG.out HS.out HOK.out hd HB2.out HTa.out HBa.out (HCV.out wm).2 (Nat.le_trans HB2.out.size HBa.out.size) HTb.out HBb.out HTc.out HBc.out HTd.out HBd.out).mono ?_; rintro e wo ⟨v,rfl,hf,hdn⟩; have HFA : Hid (FaultIs wo E (d.steps [stMake 1,stAppend 1 ix,stSync 1,stRename 1 2]).1 v) := hf; have HDN : Hid (Done E G bs w (d.steps [stMake 1,stAppend 1 ix,stSync 1,stRename 1 2]).2 wo) := hdn; clear hf hdn) | (go_at_call 41; refine (answer_any E _ v wo (HEVD.out wo _ HDN.out) HFA.out HCO).mono ?_; rintro e wz ⟨rfl,hbz⟩))
    go_ret
    exact ⟨by rw [HV.out]; rfl,by rw [HV.out]; exact done_below HDN.out hbz⟩
end Go.Proofs.YtdhgebdbiehchaaGreatDoor
