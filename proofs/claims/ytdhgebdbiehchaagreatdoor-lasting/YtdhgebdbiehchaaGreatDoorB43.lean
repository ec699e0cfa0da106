/- On the way: PBuild, PMend, PMend2, DkFail, LwBuild. -/
import Derived.Test.YtdhgebdbiehchaaGreatDoorB39
import Derived.Test.YtdhgebdbiehchaaGreatDoorB34
import Derived.Test.YtdhgebdbiehchaaGreatDoorB38
import Derived.Lib.ConvBytes
import Derived.Test.YtdhgebdbiehchaaGreatDoorB18
import Derived.Test.YtdhgebdbiehchaaGreatDoorB33
namespace Go.Proofs.YtdhgebdbiehchaaGreatDoor
open Go.RowKit Go.Maps
set_option linter.unusedSimpArgs false
set_option linter.unusedVariables false
set_option maxRecDepth 100000
set_option maxHeartbeats 3200000
theorem conv_bytes (l : List UInt8) : ∃ (cp : World -> Nat) (bw : World -> World),∀ wx : World,(convert 9 43 (.string (S l))).run Tryz.prog wx = .ok (.slice (some ⟨wx.heap.size,0,none⟩) l.length (cp wx)) (bw wx) /\ RowB (bw wx) wx.heap.size l /\ Below wx.heap.size wx (bw wx) /\ (bw wx).heap.size = wx.heap.size + 1 := by
 refine ⟨fun wx => grownCap wx (S l).size 0 5,fun wx => Go.Lib.bytesWorld wx 5 (S l),fun wx => ⟨?_,?_,?_,Go.Lib.bytesWorld_size _ _ _⟩⟩
 ·have := Go.Lib.run_convert_string_bytes (P := Tryz.prog) wx 9 43 5 (S l) Tryz.underlying9 Tryz.underlying43 Tryz.underlying5
  rw [S_size] at this
  rw [S_size]
  exact this
 ·refine ⟨by rw [Go.Lib.bytesWorld_size]; omega,fun j u hu => ?_⟩
  have hj : j < l.length := by
   have := (List.getElem?_eq_some_iff.1 hu).1
   rwa [cellsB_length] at this
  have hadd : (⟨wx.heap.size,0,none⟩ : Addr).add j = ⟨wx.heap.size,j,none⟩ := by
   unfold Addr.add
   split
   ·rename_i h; rw [h]
   ·simp
  rw [hadd,Go.Lib.bytesWorld_cell wx 5 (S l) j (by rw [S_size]; exact hj),S_data]
  rw [<- hu]
  simp [cellsB,hj]
 ·refine ⟨rfl,rfl,rfl,by rw [Go.Lib.bytesWorld_size]; omega,fun k hk => Go.Lib.bytesWorld_at_old wx _ _ k hk⟩
theorem S_new : (⟨#[110,101,119]⟩ : ByteArray) = S (nm 1) := rfl
theorem S_index : (⟨#[105,110,100,101,120]⟩ : ByteArray) = S (nm 2) := rfl
theorem make_new (w : World) : Calls Tryz.prog 54 #[.string ⟨#[110,101,119]⟩] w (Made w (stMake 1) none) := by
 rw [S_new]; exact makeS_any 1 w (by omega)
theorem sync_new (w : World) : Calls Tryz.prog 43 #[.string ⟨#[110,101,119]⟩] w (Made w (stSync 1) none) := by
 rw [S_new]; exact syncS_any 1 w (by omega)
theorem rename_new (w : World) : Calls Tryz.prog 56 #[.string ⟨#[110,101,119]⟩,.string ⟨#[105,110,100,101,120]⟩] w (Made w (stRename 1 2) none) := by
 rw [S_new,S_index]; exact renameS_any 1 2 w (by omega) (by omega)
theorem append_new (g cp : Nat) (t : List UInt8) (w : World) (hr : RowB w g t) (hp : 0 < t.length) (hl : t.length <= 1000000000) : Calls Tryz.prog 55 #[.string ⟨#[110,101,119]⟩,.slice (some ⟨g,0,none⟩) t.length cp] w (Made w (stAppend 1 t) (some g)) := by
 rw [S_new]; exact appendS_any 1 g cp t w (by omega) hr hp hl
theorem steps_four {w4 : World} {F : Nat -> Prop} {sa sb sc sd : St} {a1 a2 b1 b2 c1 c2 d1 d2 : ByteArray} {ka kb kc kd : Nat} {ca cb cc cd : Array Value} (hF : ∀ q,F q -> q < w4.heap.size) (ha : TakeAt w4 F sa (.func (.func ka) #[] ca)) (hb : TakeAt w4 F sb (.func (.func kb) #[] cb)) (hc : TakeAt w4 F sc (.func (.func kc) #[] cc)) (hd : TakeAt w4 F sd (.func (.func kd) #[] cd)) (fa : StFine sa) (fb : StFine sb) (fc : StFine sc) (fd : StFine sd) :
  StepsAt (w4.alloc (.cells #[.string a1,.string a2,.func (.func ka) #[] ca,.string b1,.string b2,.func (.func kb) #[] cb,.string c1,.string c2,.func (.func kc) #[] cc,.string d1,.string d2,.func (.func kd) #[] cd] 86)) F w4.heap.size #[.string a1,.string a2,.func (.func ka) #[] ca,.string b1,.string b2,.func (.func kb) #[] cb,.string c1,.string c2,.func (.func kc) #[] cc,.string d1,.string d2,.func (.func kd) #[] cd] [sa,sb,sc,sd] := by
 have hB := ((Below.refl w4.heap.size w4).alloc (Nat.le_refl _) (.cells #[.string a1,.string a2,.func (.func ka) #[] ca,.string b1,.string b2,.func (.func kb) #[] cb,.string c1,.string c2,.func (.func kc) #[] cc,.string d1,.string d2,.func (.func kd) #[] cd] 86))
 refine ⟨bx_new w4 _ _ rfl,fun h => absurd (hF _ h) (by omega),?_⟩
 intro j s hj
 match j,hj with
 | 0,hj => cases hj; exact ⟨a1,a2,_,rfl,rfl,rfl,ha.turn (Chg.of_below (F := fun _ => False) hB) (fun _ h => h.elim) (fun _ _ h => h),fa⟩
 | 1,hj => cases hj; exact ⟨b1,b2,_,rfl,rfl,rfl,hb.turn (Chg.of_below (F := fun _ => False) hB) (fun _ h => h.elim) (fun _ _ h => h),fb⟩
 | 2,hj => cases hj; exact ⟨c1,c2,_,rfl,rfl,rfl,hc.turn (Chg.of_below (F := fun _ => False) hB) (fun _ h => h.elim) (fun _ _ h => h),fc⟩
 | 3,hj => cases hj; exact ⟨d1,d2,_,rfl,rfl,rfl,hd.turn (Chg.of_below (F := fun _ => False) hB) (fun _ h => h.elim) (fun _ _ h => h),fd⟩
 | j + 4,hj => simp at hj
theorem build_call {E : Sent} {n : Nat} {G : Nat -> Prop} {bs : Nat} {d : Dk} {q : StP} {g : Nat} {t : List UInt8} {w w0 w1 w2 w3 w4 w5 : World} {a1 a2 b1 b2 c1 c2 d1 d2 : ByteArray} {ka kb kc kd : Nat} {ca cb cc cd : Array Value} (hE : Env0 n w E) (hG : ∀ k,G k -> n <= k /\ k < w.heap.size) (hS : StoreAt w G bs d q) (hok : DkOk d) (hup : d.down = false) (h0 : Below w.heap.size w w0)
  (ha : ∀ F : Nat -> Prop,(∀ q,F q -> q < w0.heap.size) -> (∀ q,(none : Option Nat) = some q -> ¬ F q) -> TakeAt w1 F (stMake 1) (.func (.func ka) #[] ca)) (h1 : Below w0.heap.size w0 w1) (h2 : Below w1.heap.size w1 w2) (hg : w.heap.size <= g)
  (hb : ∀ F : Nat -> Prop,(∀ q,F q -> q < w2.heap.size) -> (∀ q,some g = some q -> ¬ F q) -> TakeAt w3 F (stAppend 1 t) (.func (.func kb) #[] cb)) (h3 : Below w2.heap.size w2 w3)
  (hc : ∀ F : Nat -> Prop,(∀ q,F q -> q < w3.heap.size) -> (∀ q,(none : Option Nat) = some q -> ¬ F q) -> TakeAt w4 F (stSync 1) (.func (.func kc) #[] cc)) (h4 : Below w3.heap.size w3 w4)
  (hd : ∀ F : Nat -> Prop,(∀ q,F q -> q < w4.heap.size) -> (∀ q,(none : Option Nat) = some q -> ¬ F q) -> TakeAt w5 F (stRename 1 2) (.func (.func kd) #[] cd)) (h5 : Below w4.heap.size w4 w5) :
  Calls Tryz.prog 42 #[.pointer (some ⟨bs,0,none⟩),.slice (some ⟨w5.heap.size,0,none⟩) 4 4] (w5.alloc (.cells #[.string a1,.string a2,.func (.func ka) #[] ca,.string b1,.string b2,.func (.func kb) #[] cb,.string c1,.string c2,.func (.func kc) #[] cc,.string d1,.string d2,.func (.func kd) #[] cd] 86)) fun e w' => ∃ v,e = .returned v /\ FaultIs w' E (d.steps [stMake 1,stAppend 1 t,stSync 1,stRename 1 2]).1 v /\ Done E G bs w (d.steps [stMake 1,stAppend 1 t,stSync 1,stRename 1 2]).2 w' := by
 have z0 := h0.size
 have z1 := h1.size
 have z2 := h2.size
 have z3 := h3.size
 have z4 := h4.size
 have z5 := h5.size
 have hF : ∀ x,q.Fd x -> x < w.heap.size := fun x hx => (hG x (hS.gd x hx)).2
 have B1 : Below w.heap.size w w1 := h0.trans (h1.mono z0)
 have B2 : Below w.heap.size w w2 := B1.trans (h2.mono (by omega))
 have B3 : Below w.heap.size w w3 := B2.trans (h3.mono (by omega))
 have B4 : Below w.heap.size w w4 := B3.trans (h4.mono (by omega))
 have B5 : Below w.heap.size w w5 := B4.trans (h5.mono (by omega))
 have B6 : Below w.heap.size w (w5.alloc (.cells #[.string a1,.string a2,.func (.func ka) #[] ca,.string b1,.string b2,.func (.func kb) #[] cb,.string c1,.string c2,.func (.func kc) #[] cc,.string d1,.string d2,.func (.func kd) #[] cd] 86)) := B5.alloc (by omega) _
 have nf : ∀ {x y : World},Below x.heap.size x y -> ∀ {s : St} {v : Value},TakeAt x q.Fd s v -> TakeAt y q.Fd s v := fun hb _ _ h => h.turn (Chg.of_below (F := fun _ => False) hb) (fun _ h => h.elim) (fun _ _ h => h)
 have ta := nf (h2.trans ((h3.mono z2).trans ((h4.mono (by omega)).trans (h5.mono (by omega))))) (ha q.Fd (fun x hx => by have := hF x hx; omega) (fun x e => (by cases e)))
 have tb := nf (h4.trans (h5.mono z4)) (hb q.Fd (fun x hx => by have := hF x hx; omega) (fun x e hf => by cases e; have := hF _ hf; omega))
 have tc := nf h5 (hc q.Fd (fun x hx => by have := hF x hx; omega) (fun x e => (by cases e)))
 have td := hd q.Fd (fun x hx => by have := hF x hx; omega) (fun x e => (by cases e))
 have hT := steps_four (a1 := a1) (a2 := a2) (b1 := b1) (b2 := b2) (c1 := c1) (c2 := c2) (d1 := d1) (d2 := d2) (F := q.Fd) (fun x hx => by have := hF x hx; omega) ta tb tc td ⟨by simp [stMake],by simp [stMake],by simp [stMake]⟩ ⟨by simp [stAppend],by simp [stAppend],by simp [stAppend]⟩ ⟨by simp [stSync],by simp [stSync],by simp [stSync]⟩ ⟨by simp [stRename],by simp [stRename],by simp [stRename]⟩
 exact (storeDo_any E n G bs d q w5.heap.size 4 _ [stMake 1,stAppend 1 t,stSync 1,stRename 1 2] _ (hE.chg (F := fun _ => False) (Chg.of_below B6) (fun _ h => h.elim)) (fun k hk => ⟨(hG k hk).1,Nat.lt_of_lt_of_le (hG k hk).2 B6.size⟩) (hS.below B6) hok hup hT (by simp) (by simp)).mono fun e w' ⟨v,e1,e2,e3⟩ => ⟨v,e1,e2,e3.later B6⟩
theorem indexS_pos {log l : List UInt8} (h : indexS log = some l) : 0 < l.length := by
 unfold indexS at h
 split at h
 ·cases h
 split at h
 ·cases h
 split at h
 ·cases h
 split at h
 ·cases h
 have h := Option.some.inj h
 subst h
 unfold indexB
 rw [List.length_append,sealL_length]
 omega
theorem build_any (E : Sent) (n : Nat) (G : Nat -> Prop) (bs : Nat) (d : Dk) (q : StP) (w : World) (hE : Env0 n w E) (hG : ∀ k,G k -> n <= k /\ k < w.heap.size) (hS : StoreAt w G bs d q) (hok : DkOk d) :
  Calls Tryz.prog 27 #[.pointer (some ⟨bs,0,none⟩)] w fun e w' => e = .returned (.int .i64 d.build.1) /\ Done E G bs w d.build.2 w' := by
 have c0 : w.cell? ⟨bs,0,none⟩ = some (.pointer (some ⟨q.bd,0,none⟩)) := hS.box.cell (j := 0) rfl
 have HR0 : Calls Tryz.prog 50 #[.pointer (some ⟨q.bd,0,none⟩),.string ⟨#[108,111,103]⟩] w fun e w' => ∃ ev,e = .returned (.tuple #[.string (S (d.fileR (nm 0)).1),ev]) /\ FaultIs w' E (d.fileR (nm 0)).2 ev /\ Below w.heap.size w w' := read_disk E n q.Fd q.bd d q.p ⟨#[108,111,103]⟩ w hE hS.disk (by decide)
 have HS0 : Hid (∀ w1 : World,Below w.heap.size w w1 -> Done E G bs w d w1) := fun w1 hb => ⟨⟨q,(hS.below hb).mono (fun k h => .inl h)⟩,Chg.of_below hb⟩
 have HEV : Hid (∀ w1 : World,Below w.heap.size w w1 -> Env w1 E) := fun w1 hb => hE.env.below hb
 cases hd : d.down with
 | true =>
  rw [fileR_dn hd] at HR0
  have HV : Hid (d.build = (7,d)) := by show _ = _; unfold Dk.build; rw [if_pos hd]
  clear hE hS hG hok
  go_enter Tryz.func27,Tryz.ntmps27
  go_wp2_with (first | (go_at_call 50; refine HR0.mono ?_; rintro e w1 ⟨ev,rfl,hf,hb⟩; obtain ⟨b,rfl⟩ := fault_some hf (by decide); have HFA : Hid (FaultIs w1 E 7 (.iface 128 (.pointer (some ⟨b,0,none⟩)))) := hf; have HB : Hid (Below w.heap.size w w1) := hb; clear hf hb) | (go_at_call 41; refine (answer_any E 7 _ w1 (HEV.out w1 HB.out) HFA.out (by decide)).mono ?_; rintro e w2 ⟨rfl,hb2⟩; have HB2 : Hid (Below w.heap.size w w2) := HB.out.trans (hb2.mono HB.out.size); clear hb2))
  go_ret
  exact ⟨by rw [HV.out]; rfl,by rw [HV.out]; exact HS0.out _ HB2.out⟩
 | false =>
  cases h0 : d.f0 with
  | none =>
   rw [fileR_no (i := 0) hd (by omega) h0] at HR0
   have HV : Hid (d.build = (2,d)) := by show _ = _; unfold Dk.build; rw [if_neg (by simp [hd]),h0]
   clear hE hS hG hok
   go_enter Tryz.func27,Tryz.ntmps27
   go_wp2_with (first | (go_at_call 50; refine HR0.mono ?_; rintro e w1 ⟨ev,rfl,hf,hb⟩; obtain ⟨b,rfl⟩ := fault_some hf (by decide); have HFA : Hid (FaultIs w1 E 2 (.iface 128 (.pointer (some ⟨b,0,none⟩)))) := hf; have HB : Hid (Below w.heap.size w w1) := hb; clear hf hb) | (go_at_call 41; refine (answer_any E 2 _ w1 (HEV.out w1 HB.out) HFA.out (by decide)).mono ?_; rintro e w2 ⟨rfl,hb2⟩; have HB2 : Hid (Below w.heap.size w w2) := HB.out.trans (hb2.mono HB.out.size); clear hb2))
   go_ret
   exact ⟨by rw [HV.out]; rfl,by rw [HV.out]; exact HS0.out _ HB2.out⟩
  | some f =>
   rw [fileR_up (i := 0) hd (by omega) h0] at HR0
   have hfl : f.text.length <= 100000 := by
    have h1 := hok.used
    have h2 := hok.room
    unfold Dk.used at h1
    rw [h0] at h1
    simp only [lenF] at h1
    omega
   have HIX : Hid (∀ w1 : World,Below w.heap.size w w1 -> Calls Tryz.prog 20 #[.string (S f.text)] w1 fun e w' => e = .returned (indexV (indexS f.text)) /\ Below w1.heap.size w1 w') := fun w1 hb => progIndex_any (S f.text) w1 (by rw [S_size]; omega) (HEV.out w1 hb).halves
   cases hix : indexS f.text with
   | none =>
    have HV : Hid (d.build = (3,d)) := by show _ = _; unfold Dk.build; rw [if_neg (by simp [hd]),h0]; simp only; rw [hix]
    rw [hix] at HIX
    unfold indexV at HIX
    dsimp only at HIX
    clear hE hS hG hok hfl hix
    go_enter Tryz.func27,Tryz.ntmps27
    go_wp2_with (first | (go_at_call 50; refine HR0.mono ?_; rintro e w1 ⟨ev,rfl,hf,hb⟩; obtain rfl := fault_nil hf; have HB : Hid (Below w.heap.size w w1) := hb; clear hf hb) | (go_at_call 20; refine (HIX.out w1 HB.out).mono ?_; rintro e w2 ⟨rfl,hb2⟩; have HB2 : Hid (Below w.heap.size w w2) := HB.out.trans (hb2.mono HB.out.size); clear hb2))
    go_ret
    exact ⟨by rw [HV.out]; rfl,by rw [HV.out]; exact HS0.out _ HB2.out⟩
   | some ix =>
    have HV : Hid (d.build = d.steps [stMake 1,stAppend 1 ix,stSync 1,stRename 1 2]) := by show _ = _; unfold Dk.build; rw [if_neg (by simp [hd]),h0]; simp only; rw [hix]
    have hp := indexS_pos hix
    have hl := indexS_short hix
    rw [hix] at HIX
    unfold indexV at HIX
    dsimp only at HIX
    obtain ⟨cpf,bwf,hcv⟩ := conv_bytes ix
    have hcv1 : ∀ wx : World,(convert 9 43 (.string (S ix))).run Tryz.prog wx = .ok (.slice (some ⟨wx.heap.size,0,none⟩) ix.length (cpf wx)) (bwf wx) := fun wx => (hcv wx).1
    have HCV : Hid (∀ wx : World,RowB (bwf wx) wx.heap.size ix /\ Below wx.heap.size wx (bwf wx)) := fun wx => ⟨(hcv wx).2.1,(hcv wx).2.2.1⟩
    have HAP : Hid (∀ wx : World,Calls Tryz.prog 55 #[.string ⟨#[110,101,119]⟩,.slice (some ⟨wx.heap.size,0,none⟩) ix.length (cpf wx)] (bwf wx) (Made (bwf wx) (stAppend 1 ix) (some wx.heap.size))) := fun wx => append_new _ _ ix _ (HCV.out wx).1 hp (by omega)
    have HCO := codes_answer (steps_codes d [stMake 1,stAppend 1 ix,stSync 1,stRename 1 2])
    have HEVD : Hid (∀ (w1 : World) (d' : Dk),Done E G bs w d' w1 -> Env w1 E) := fun w1 d' h => (done_env hE hG h).env
    have HE : Hid (Env0 n w E) := hE
    have HG : Hid (∀ k,G k -> n <= k /\ k < w.heap.size) := hG
    have HS : Hid (StoreAt w G bs d q) := hS
    have HOK : Hid (DkOk d) := hok
    clear hE hS hG hok hfl hix hcv hp hl HS0 h0
    go_enter Tryz.func27,Tryz.ntmps27
    go_wp2_with (first | (go_at_call 50; refine HR0.mono ?_; rintro e w1 ⟨ev,rfl,hf,hb⟩; obtain rfl := fault_nil hf; have HB : Hid (Below w.heap.size w w1) := hb; clear hf hb) | (go_at_call 20; refine (HIX.out w1 HB.out).mono ?_; rintro e w2 ⟨rfl,hb2⟩; have HB2 : Hid (Below w.heap.size w w2) := HB.out.trans (hb2.mono HB.out.size); clear hb2) | (go_at_call 54; refine (make_new w2).mono ?_; rintro e wm ⟨sa,sa2,ka,ca,rfl,hTa,hba⟩; have HTa : Hid _ := hTa; have HBa : Hid (Below w2.heap.size w2 wm) := hba; clear hTa hba) | (go_at_call 55; refine (HAP.out wm).mono ?_; rintro e wa ⟨sb,sb2,kb,cb,rfl,hTb,hbb⟩; have HTb : Hid _ := hTb; have HBb : Hid (Below (bwf wm).heap.size (bwf wm) wa) := hbb; clear hTb hbb) | (go_at_call 43; refine (sync_new wa).mono ?_; rintro e ws ⟨sc,sc2,kc,cc,rfl,hTc,hbc⟩; have HTc : Hid _ := hTc; have HBc : Hid (Below wa.heap.size wa ws) := hbc; clear hTc hbc) | (go_at_call 56; refine (rename_new ws).mono ?_; rintro e wn ⟨sd,sd2,kd,cd,rfl,hTd,hbd⟩; have HTd : Hid _ := hTd; have HBd : Hid (Below ws.heap.size ws wn) := hbd; clear hTd hbd) | (go_at_call 42; refine (build_call HE.out HG.out HS.out HOK.out hd HB2.out HTa.out HBa.out (HCV.out wm).2 (Nat.le_trans HB2.out.size HBa.out.size) HTb.out HBb.out HTc.out HBc.out HTd.out HBd.out).mono ?_; rintro e wo ⟨v,rfl,hf,hdn⟩; have HFA : Hid (FaultIs wo E (d.steps [stMake 1,stAppend 1 ix,stSync 1,stRename 1 2]).1 v) := hf; have HDN : Hid (Done E G bs w (d.steps [stMake 1,stAppend 1 ix,stSync 1,stRename 1 2]).2 wo) := hdn; clear hf hdn) | (go_at_call 41; refine (answer_any E _ v wo (HEVD.out wo _ HDN.out) HFA.out HCO).mono ?_; rintro e wz ⟨rfl,hbz⟩))
    go_ret
    exact ⟨by rw [HV.out]; rfl,by rw [HV.out]; exact done_below HDN.out hbz⟩
theorem info_step : (Tryz.prog.info? 86).map (fun i => (i.zero,i.size,i.bytes)) = some (some (.agg #[.string ⟨#[]⟩,.string ⟨#[]⟩,.nilFunc]),3,40) := by kernel_rfl
structure StepsRow (base : Nat) (F : Nat -> Prop) (w : World) (v : Value) (ss : List St) : Prop where
 row : ∃ xs,w.ownsRow 0 86 3 v ss.length xs /\ ∀ j st,ss[j]? = some st -> ∃ s1 s2 tv,xs[j * 3]? = some (.string s1) /\ xs[j * 3 + 1]? = some (.string s2) /\ xs[j * 3 + 2]? = some tv /\ TakeAt w (fun k => F k \/ v.ownBlock = some k) st tv /\ StFine st
 base : ∀ g,v.ownBlock = some g -> base <= g
theorem StepsRow.nil (base : Nat) (F : Nat -> Prop) (w : World) : StepsRow base F w (.slice none 0 0) [] := ⟨⟨[],World.ownsRow_nil _ _ _ _,fun j st h => by simp at h⟩,fun g e => by cases e⟩
theorem StepsRow.below {base : Nat} {F : Nat -> Prop} {w w' : World} {v : Value} {ss : List St} (h : StepsRow base F w v ss) (hb : Below w.heap.size w w') : StepsRow base F w' v ss := by
 obtain ⟨xs,h1,h2⟩ := h.row
 refine ⟨⟨xs,own_chg h1 (Chg.of_below (F := fun _ => False) hb) (fun _ _ h => h),fun j st hj => ?_⟩,h.base⟩
 obtain ⟨s1,s2,tv,a1,a2,a3,a4,a5⟩ := h2 j st hj
 exact ⟨s1,s2,tv,a1,a2,a3,a4.turn (Chg.of_below (F := fun _ => False) hb) (fun _ h => h.elim) (fun _ _ h => h),a5⟩
theorem StepsRow.snoc {base : Nat} {F : Nat -> Prop} {w w1 : World} {v : Value} {ss : List St} {st : St} {s1 s2 : ByteArray} {k : Nat} {caps : Array Value} (h : StepsRow base F w v ss) (hF : ∀ q,F q -> q < w.heap.size) (hbw : base <= w.heap.size)
  (hT : ∀ F' : Nat -> Prop,(∀ q,F' q -> q < w.heap.size) -> (∀ q,(none : Option Nat) = some q -> ¬ F' q) -> TakeAt w1 F' st (.func (.func k) #[] caps)) (hb : Below w.heap.size w w1) (hs : StFine st) (hl : ss.length <= 1000) :
  ∃ g cap w',(Builtin.append_ #[132,132] 132 #[v,.slice (some ⟨w1.heap.size,0,none⟩) 1 1]).run Tryz.prog (w1.alloc (.cells #[.string s1,.string s2,.func (.func k) #[] caps] 86)) = .ok (.slice (some ⟨g,0,none⟩) (ss.length + 1) cap) w' /\ StepsRow base F w' (.slice (some ⟨g,0,none⟩) (ss.length + 1) cap) (ss ++ [st]) /\ Below base w w' := by
 have hz := hb.size
 obtain ⟨xs,h1,h2⟩ := h.row
 have hxl : xs.length = ss.length * 3 := h1.1
 obtain ⟨Y,hY⟩ : ∃ Y,Y = w1.alloc (.cells #[.string s1,.string s2,.func (.func k) #[] caps] 86) := ⟨_,rfl⟩
 have hbY : Below w1.heap.size w1 Y := by rw [hY]; exact (Below.refl _ _).alloc (Nat.le_refl _) _
 have hbx : Bx Y w1.heap.size #[.string s1,.string s2,.func (.func k) #[] caps] 86 := by rw [hY]; exact bx_new _ _ _ rfl
 have hB : Below w.heap.size w Y := hb.trans (hbY.mono hz)
 have hzY := hbY.size
 have hov : ∀ g,v.ownBlock = some g -> g < w.heap.size := own_lt h1
 have h1' : Y.ownsRow 0 86 3 v ss.length xs := own_chg h1 (Chg.of_below (F := fun _ => False) hB) (fun _ _ h => h)
 rw [<- hY]
 obtain ⟨i0,hi,hz0,hz1,hz2⟩ := info_parts info_step
 have hg : ∀ j u,[Value.string s1,.string s2,.func (.func k) #[] caps][j]? = some u -> Y.cell? ((⟨w1.heap.size,0,none⟩ : Addr).add j) = some u := by
  intro j u hu
  have hadd : (⟨w1.heap.size,0,none⟩ : Addr).add j = ⟨w1.heap.size,j,none⟩ := by
   unfold Addr.add
   split
   ·rename_i h; rw [h]
   ·simp
  rw [hadd]
  exact hbx.cell (by simpa using hu)
 obtain ⟨g,cap,w',a1,a2,a3,a4,a5⟩ := run_append_lies (P := Tryz.prog) Y 132 132 0 86 i0 (.agg #[.string ⟨#[]⟩,.string ⟨#[]⟩,.nilFunc]) 3 40 Tryz.underlying132 hi hz0 hz1 hz2 rfl (by decide) v ss.length xs h1' ⟨w1.heap.size,0,none⟩ 1 1 [.string s1,.string s2,.func (.func k) #[] caps] rfl hg (by simp [Value.oneCell']) (by omega) (by unfold maxLen; omega) (by omega) (Nat.zero_le _) _ rfl
 have hC : Chg (fun k => v.ownBlock = some k) Y w' := (Chg.refl _ Y).grown a3 (fun k e => .inl e)
 have hnew : ∀ {s : St} {tv : Value},TakeAt Y (fun k => F k \/ v.ownBlock = some k) s tv -> TakeAt w' (fun k => F k \/ (Value.slice (some ⟨g,0,none⟩) (ss.length + 1) cap).ownBlock = some k) s tv := fun ht => ht.turn hC (fun k e => .inr e) (fun q hq hx => by
  rcases hx with hx | hx
  ·exact .inl hx
  ·have e1 : g = q := by simpa [Value.ownBlock] using hx
   subst e1
   rcases a4 with a4 | a4
   ·exact .inr a4
   ·omega)
 refine ⟨g,cap,w',a1,⟨⟨_,by rw [List.length_append]; exact a2,fun j s hj => ?_⟩,fun g' e => ?_⟩,?_⟩
 ·by_cases hjl : j < ss.length
  ·rw [List.getElem?_append_left hjl] at hj
   obtain ⟨t1,t2,tv,b1,b2,b3,b4,b5⟩ := h2 j s hj
   refine ⟨t1,t2,tv,?_,?_,?_,hnew (b4.turn (Chg.of_below (F := fun _ => False) hB) (fun _ h => h.elim) (fun _ _ h => h)),b5⟩
   ·rw [List.getElem?_append_left (by omega)]; exact b1
   ·rw [List.getElem?_append_left (by omega)]; exact b2
   ·rw [List.getElem?_append_left (by omega)]; exact b3
  ·have hje : j = ss.length := by
    have := (List.getElem?_eq_some_iff.1 hj).1
    simp at this
    omega
   subst hje
   have hj' : st = s := by simpa using hj
   subst hj'
   refine ⟨s1,s2,_,?_,?_,?_,hnew ((hT (fun k => F k \/ v.ownBlock = some k) ?_ (fun q e => (by cases e))).turn (Chg.of_below (F := fun _ => False) hbY) (fun _ h => h.elim) (fun _ _ h => h)),hs⟩
   ·rw [List.getElem?_append_right (by omega),hxl]; simp
   ·rw [List.getElem?_append_right (by omega),hxl]; simp
   ·rw [List.getElem?_append_right (by omega),hxl]; simp
   ·rintro q (hq | hq)
    ·exact hF q hq
    ·exact hov q hq
 ·have e1 : g = g' := by simpa [Value.ownBlock] using e
  subst e1
  rcases a4 with a4 | a4
  ·exact h.base _ a4
  ·omega
 ·have h5 : Below base Y w' := hC.below (by omega) (fun k e => h.base k e)
  exact (hB.mono hbw).trans h5
theorem StepsRow.steps {base : Nat} {F : Nat -> Prop} {w : World} {v : Value} {ss : List St} (h : StepsRow base F w v ss) (hF : ∀ q,F q -> q < base) (hne : 0 < ss.length) : ∃ g cap cs,v = .slice (some ⟨g,0,none⟩) ss.length cap /\ ss.length <= cap /\ StepsAt w F g cs ss := by
 obtain ⟨xs,h1,h2⟩ := h.row
 rcases h1.2 with ⟨e3,e0⟩ | ⟨g,cap,cur,e3,hbg,hgb,hnc,hcm,hcs,htake⟩
 ·omega
 ·subst e3
  refine ⟨g,cap,cur,rfl,by omega,hgb,fun hf => ?_,fun j st hj => ?_⟩
  ·have := h.base g rfl
   have := hF g hf
   omega
  ·obtain ⟨s1,s2,tv,a1,a2,a3,a4,a5⟩ := h2 j st hj
   have hcur : ∀ (i : Nat) (u : Value),xs[i]? = some u -> cur[i]? = some u := by
    intro i u hu
    have h5 : (cur.toList.take (ss.length * 3))[i]? = some u := by rw [htake]; exact hu
    rw [List.getElem?_take] at h5
    split at h5
    ·simpa using h5
    ·cases h5
   exact ⟨s1,s2,tv,hcur _ _ a1,hcur _ _ a2,hcur _ _ a3,a4.turn (Chg.refl (fun _ => False) w) (fun _ h => h.elim) (fun _ _ h => .inl h),a5⟩
theorem said_code (l i : List UInt8) (w : World) (hl : l.length <= 100000) (hi : i.length <= 100000) (hH : HalvesAt w) :
  Calls Tryz.prog 83 #[.string (S l),.string (S i)] w fun e w' => ∃ (a b c : Int) (x y : Option Nat),e = .returned (.tuple #[.agg #[.int .i64 a,.int .i64 b,.int .i64 c,.map x,.map y],.int .i64 (saidE l i)]) /\ Below w.heap.size w w' := by
 by_cases hbe : beginsE l i = 0
 ·have h := said_goes (S l) (S i) w (by rw [S_size]; omega) (by rw [S_size]; omega) hH (by rw [S_data,S_data]; exact hbe)
  rw [S_data,S_data] at h
  refine h.mono ?_
  rintro e w' ⟨h1 | ⟨L,bi,bp,n,h2,h3,rfl,h4⟩,hb⟩
  ·obtain ⟨h1,rfl⟩ := h1
   refine ⟨0,0,0,none,none,?_,hb⟩
   unfold saidE
   rw [if_neg (by simp [hbe]),if_neg h1]
   rfl
  ·refine ⟨hdBlk l,hdSeed l,hdBits l,some bi,some bp,?_,hb⟩
   unfold saidE
   rw [if_neg (by simp [hbe]),if_pos h3]
   rfl
 ·have h := said_begins (S l) (S i) w (by rw [S_size]; omega) (by rw [S_size]; omega) hH (by rw [S_data,S_data]; exact hbe)
  rw [S_data,S_data] at h
  refine h.mono ?_
  rintro e w' ⟨rfl,hb⟩
  refine ⟨0,0,0,none,none,?_,hb⟩
  unfold saidE
  rw [if_pos hbe]
  rfl
theorem fine_cut0 (m : Nat) (h : m <= 9223372036854775807) : StFine (stCut 0 m) := ⟨by simp [stCut],by simp [stCut],by simp [stCut]⟩
theorem fine_remove : StFine (stRemove 2) := ⟨by simp [stRemove],by simp [stRemove],by simp [stRemove]⟩
theorem cut_log (m : Nat) (w : World) (hm : m <= 9223372036854775807) : Calls Tryz.prog 158 #[.string ⟨#[108,111,103]⟩,.int .i64 (m : Int)] w (Made w (stCut 0 m) none) := by
 rw [S_log]; exact cutS_any 0 m w (by omega) hm
theorem remove_index (w : World) : Calls Tryz.prog 159 #[.string ⟨#[105,110,100,101,120]⟩] w (Made w (stRemove 2) none) := by
 rw [S_index]; exact removeS_any 2 w (by omega)
theorem mending_at (d : Dk) (log : List UInt8) : d.mending log = (if (readL log (hdBlk log) 14).2 < log.length then [stCut 0 (readL log (hdBlk log) 14).2] else []) ++ [stSync 0] ++ (match d.f2 with | none => [] | some g => if saidE (log.take (readL log (hdBlk log) 14).2) g.text = 0 then [] else [stRemove 2]) := rfl
theorem mending_any (E : Sent) (n : Nat) (G : Nat -> Prop) (bs : Nat) (d : Dk) (q : StP) (log : List UInt8) (m : Nat) (w : World) (hE : Env0 n w E) (hG : ∀ k,G k -> n <= k /\ k < w.heap.size) (hS : StoreAt w G bs d q) (hok : DkOk d) (hd : d.down = false) (hl : log.length <= 100000) (hm : m = (readL log (hdBlk log) 14).2) (hml : m <= log.length) :
  Calls Tryz.prog 107 #[.pointer (some ⟨bs,0,none⟩),.string (S log),.string (S (log.take m))] w fun e w' => ∃ v,e = .returned v /\ StepsRow w.heap.size q.Fd w' v (d.mending log) /\ Below w.heap.size w w' := by
 have c0 : w.cell? ⟨bs,0,none⟩ = some (.pointer (some ⟨q.bd,0,none⟩)) := hS.box.cell (j := 0) rfl
 have HC0 : Hid (∀ w1 : World,Below w.heap.size w w1 -> w1.cell? ⟨bs,0,none⟩ = some (.pointer (some ⟨q.bd,0,none⟩))) := fun w1 hb => (hS.box.below hb hS.box.lt).cell (j := 0) rfl
 have HR2 : Hid (∀ w1 : World,Below w.heap.size w w1 -> Calls Tryz.prog 50 #[.pointer (some ⟨q.bd,0,none⟩),.string ⟨#[105,110,100,101,120]⟩] w1 fun e w' => ∃ ev,e = .returned (.tuple #[.string (S (d.fileR (nm 2)).1),ev]) /\ FaultIs w' E (d.fileR (nm 2)).2 ev /\ Below w1.heap.size w1 w') := fun w1 hb => read_disk E n q.Fd q.bd d q.p ⟨#[105,110,100,101,120]⟩ w1 (hE.chg (F := fun _ => False) (Chg.of_below hb) (fun _ h => h.elim)) (hS.disk.below hb) (by decide)
 have HEV : Hid (∀ w1 : World,Below w.heap.size w w1 -> Env w1 E) := fun w1 hb => hE.env.below hb
 have HF : Hid (∀ k,q.Fd k -> k < w.heap.size) := fun k hk => (hG k (hS.gd k hk)).2
 have HSN : Hid (∀ (w1 w2 : World) (v : Value) (ss : List St) (st : St) (s1 s2 : ByteArray) (k : Nat) (caps : Array Value) (nn : Nat),nn = ss.length + 1 -> StepsRow w.heap.size q.Fd w1 v ss -> Below w.heap.size w w1 -> (∀ F' : Nat -> Prop,(∀ q,F' q -> q < w1.heap.size) -> (∀ q,(none : Option Nat) = some q -> ¬ F' q) -> TakeAt w2 F' st (.func (.func k) #[] caps)) -> Below w1.heap.size w1 w2 -> StFine st -> ss.length <= 1000 -> ∃ g cap w',(Builtin.append_ #[132,132] 132 #[v,.slice (some ⟨w2.heap.size,0,none⟩) 1 1]).run Tryz.prog (w2.alloc (.cells #[.string s1,.string s2,.func (.func k) #[] caps] 86)) = .ok (.slice (some ⟨g,0,none⟩) nn cap) w' /\ StepsRow w.heap.size q.Fd w' (.slice (some ⟨g,0,none⟩) nn cap) (ss ++ [st]) /\ Below w.heap.size w w') := fun w1 w2 v ss st s1 s2 k caps nn hnn h hb hT hb2 hs hl => by
  obtain ⟨g,cap,w',a1,a2,a3⟩ := h.snoc (s1 := s1) (s2 := s2) (fun q hq => Nat.lt_of_lt_of_le (HF.out q hq) hb.size) hb.size hT hb2 hs hl
  subst hnn
  exact ⟨g,cap,w',a1,a2,hb.trans a3⟩
 have HW : Hid (((S (log.take m)).size : Int) = (m : Int)) := by show _ = _; rw [S_size,List.length_take]; omega
 have HN0 : Hid (StepsRow w.heap.size q.Fd w (.slice none 0 0) []) := StepsRow.nil _ _ _
 have hm9 : m <= 9223372036854775807 := by omega
 by_cases hc : m < log.length
 ·have hne0 : log.take m ≠ log := by
   intro e
   have := congrArg List.length e
   rw [List.length_take] at this
   omega
  have hne1 : S (log.take m) ≠ S log := by
   intro e
   have := congrArg (fun x : ByteArray => x.data.toList) e
   simp only [S_data] at this
   exact hne0 this
  have hne2 : (S (log.take m)).toList ≠ (S log).toList := by
   rw [ByteArray.toList_eq,ByteArray.toList_eq,S_data,S_data]
   exact hne0
  have hne3 : ((S (log.take m)).toList == (S log).toList) = false := by simpa using hne2
  have hne4 : ((S (log.take m)).toList != (S log).toList) = true := by simpa using hne2
  cases h2 : d.f2 with
  | none =>
   have HM : Hid (d.mending log = [stCut 0 m,stSync 0]) := by
    show _ = _
    rw [mending_at,<- hm,if_pos hc,h2]
    rfl
   rw [fileR_no (i := 2) hd (by omega) h2] at HR2
   clear hE hG hS hok hd hm hc h2 hl
   go_enter Tryz.func107,Tryz.ntmps107
   go_wp2_with (first | (go_at_call 158; rw [HW.out]; refine (cut_log m w hm9).mono ?_; intro e w2 hM; obtain ⟨s1,s2,k,caps,rfl,hT,hb⟩ := hM.form; obtain ⟨g,cap,w3,hrun,hrow,hB3⟩ := HSN.out w w2 _ [] (stCut 0 m) s1 s2 k caps 1 rfl HN0.out (Below.refl _ _) hT hb (fine_cut0 m hm9) (by simp); have R1 : Hid _ := hrun; have HROW3 : Hid (StepsRow w.heap.size q.Fd w3 (.slice (some ⟨g,0,none⟩) 1 cap) [stCut 0 m]) := hrow; have HB3 : Hid (Below w.heap.size w w3) := hB3; clear hrow hB3 hT hb hM hrun) | (at_builtin; refine wp_append_run rfl (.tmp 15) (.tmp 19) 132 132 rfl rfl rfl R1.out ?_) | (go_at_call 43; refine (sync_log w3).mono ?_; intro e w4 hM; obtain ⟨t1,t2,k2,caps2,rfl,hT,hb⟩ := hM.form; obtain ⟨g2,cap2,w5,hrun,hrow,hB5⟩ := HSN.out w3 w4 _ [stCut 0 m] (stSync 0) t1 t2 k2 caps2 2 rfl HROW3.out HB3.out hT hb stSync_fine (by simp); have R2 : Hid _ := hrun; have HROW5 : Hid (StepsRow w.heap.size q.Fd w5 (.slice (some ⟨g2,0,none⟩) 2 cap2) [stCut 0 m,stSync 0]) := hrow; have HB5 : Hid (Below w.heap.size w w5) := hB5; have c5 := HC0.out w5 hB5; clear hrow hB5 hT hb hM hrun) | (at_builtin; refine wp_append_run rfl (.tmp 21) (.tmp 23) 132 132 rfl rfl rfl R2.out ?_) | (go_at_call 50; refine (HR2.out w5 HB5.out).mono ?_; rintro e w6 ⟨ev,rfl,hf,hb6⟩; obtain ⟨b,rfl⟩ := fault_some hf (by decide); have HB6 : Hid (Below w5.heap.size w5 w6) := hb6; clear hf hb6))
   go_ret
   exact ⟨_,rfl,by rw [HM.out]; exact HROW5.out.below HB6.out,HB5.out.trans (HB6.out.mono HB5.out.size)⟩
  | some f =>
   have hfl : f.text.length <= 100000 := by
    have h5 := hok.used
    have h6 := hok.room
    unfold Dk.used at h5
    rw [h2] at h5
    simp only [lenF] at h5
    omega
   rw [fileR_up (i := 2) hd (by omega) h2] at HR2
   have HSD : Hid (∀ w1 : World,Below w.heap.size w w1 -> Calls Tryz.prog 83 #[.string (S (log.take m)),.string (S f.text)] w1 fun e w' => ∃ (a b c : Int) (x y : Option Nat),e = .returned (.tuple #[.agg #[.int .i64 a,.int .i64 b,.int .i64 c,.map x,.map y],.int .i64 (saidE (log.take m) f.text)]) /\ Below w1.heap.size w1 w') := fun w1 hb => said_code (log.take m) f.text w1 (by rw [List.length_take]; omega) hfl (HEV.out w1 hb).halves
   by_cases hs : saidE (log.take m) f.text = 0
   ·have HM : Hid (d.mending log = [stCut 0 m,stSync 0]) := by
     show _ = _
     rw [mending_at,<- hm,if_pos hc,h2]
     simp only
     rw [if_pos hs]
     rfl
    rw [hs] at HSD
    clear hE hG hS hok hd hm hc h2 hl
    go_enter Tryz.func107,Tryz.ntmps107
    go_wp2_with (first | (go_at_call 158; rw [HW.out]; refine (cut_log m w hm9).mono ?_; intro e w2 hM; obtain ⟨s1,s2,k,caps,rfl,hT,hb⟩ := hM.form; obtain ⟨g,cap,w3,hrun,hrow,hB3⟩ := HSN.out w w2 _ [] (stCut 0 m) s1 s2 k caps 1 rfl HN0.out (Below.refl _ _) hT hb (fine_cut0 m hm9) (by simp); have R1 : Hid _ := hrun; have HROW3 : Hid (StepsRow w.heap.size q.Fd w3 (.slice (some ⟨g,0,none⟩) 1 cap) [stCut 0 m]) := hrow; have HB3 : Hid (Below w.heap.size w w3) := hB3; clear hrow hB3 hT hb hM hrun) | (at_builtin; refine wp_append_run rfl (.tmp 15) (.tmp 19) 132 132 rfl rfl rfl R1.out ?_) | (go_at_call 43; refine (sync_log w3).mono ?_; intro e w4 hM; obtain ⟨t1,t2,k2,caps2,rfl,hT,hb⟩ := hM.form; obtain ⟨g2,cap2,w5,hrun,hrow,hB5⟩ := HSN.out w3 w4 _ [stCut 0 m] (stSync 0) t1 t2 k2 caps2 2 rfl HROW3.out HB3.out hT hb stSync_fine (by simp); have R2 : Hid _ := hrun; have HROW5 : Hid (StepsRow w.heap.size q.Fd w5 (.slice (some ⟨g2,0,none⟩) 2 cap2) [stCut 0 m,stSync 0]) := hrow; have HB5 : Hid (Below w.heap.size w w5) := hB5; have c5 := HC0.out w5 hB5; clear hrow hB5 hT hb hM hrun) | (at_builtin; refine wp_append_run rfl (.tmp 21) (.tmp 23) 132 132 rfl rfl rfl R2.out ?_) | (go_at_call 50; refine (HR2.out w5 HB5.out).mono ?_; rintro e w6 ⟨ev,rfl,hf,hb6⟩; obtain rfl := fault_nil hf; have HB6 : Hid (Below w5.heap.size w5 w6) := hb6; clear hf hb6) | (go_at_call 83; refine (HSD.out w6 (HB5.out.trans (HB6.out.mono HB5.out.size))).mono ?_; rintro e w7 ⟨x1,x2,x3,x4,x5,rfl,hb7⟩; have HB7 : Hid (Below w5.heap.size w5 w7) := HB6.out.trans (hb7.mono HB6.out.size); clear hb7))
    go_ret
    exact ⟨_,rfl,by rw [HM.out]; exact HROW5.out.below (HB7.out.alloc HB7.out.size _),HB5.out.trans ((HB7.out.alloc HB7.out.size _).mono HB5.out.size)⟩
   ·have HM : Hid (d.mending log = [stCut 0 m,stSync 0,stRemove 2]) := by
     show _ = _
     rw [mending_at,<- hm,if_pos hc,h2]
     simp only
     rw [if_neg hs]
     rfl
    clear hE hG hS hok hd hm hc h2 hl
    go_enter Tryz.func107,Tryz.ntmps107
    go_wp2_with (first | (go_at_call 158; rw [HW.out]; refine (cut_log m w hm9).mono ?_; intro e w2 hM; obtain ⟨s1,s2,k,caps,rfl,hT,hb⟩ := hM.form; obtain ⟨g,cap,w3,hrun,hrow,hB3⟩ := HSN.out w w2 _ [] (stCut 0 m) s1 s2 k caps 1 rfl HN0.out (Below.refl _ _) hT hb (fine_cut0 m hm9) (by simp); have R1 : Hid _ := hrun; have HROW3 : Hid (StepsRow w.heap.size q.Fd w3 (.slice (some ⟨g,0,none⟩) 1 cap) [stCut 0 m]) := hrow; have HB3 : Hid (Below w.heap.size w w3) := hB3; clear hrow hB3 hT hb hM hrun) | (at_builtin; refine wp_append_run rfl (.tmp 15) (.tmp 19) 132 132 rfl rfl rfl R1.out ?_) | (go_at_call 43; refine (sync_log w3).mono ?_; intro e w4 hM; obtain ⟨t1,t2,k2,caps2,rfl,hT,hb⟩ := hM.form; obtain ⟨g2,cap2,w5,hrun,hrow,hB5⟩ := HSN.out w3 w4 _ [stCut 0 m] (stSync 0) t1 t2 k2 caps2 2 rfl HROW3.out HB3.out hT hb stSync_fine (by simp); have R2 : Hid _ := hrun; have HROW5 : Hid (StepsRow w.heap.size q.Fd w5 (.slice (some ⟨g2,0,none⟩) 2 cap2) [stCut 0 m,stSync 0]) := hrow; have HB5 : Hid (Below w.heap.size w w5) := hB5; have c5 := HC0.out w5 hB5; clear hrow hB5 hT hb hM hrun) | (at_builtin; refine wp_append_run rfl (.tmp 21) (.tmp 23) 132 132 rfl rfl rfl R2.out ?_) | (go_at_call 50; refine (HR2.out w5 HB5.out).mono ?_; rintro e w6 ⟨ev,rfl,hf,hb6⟩; obtain rfl := fault_nil hf; have HB6 : Hid (Below w5.heap.size w5 w6) := hb6; clear hf hb6) | (go_at_call 83; refine (HSD.out w6 (HB5.out.trans (HB6.out.mono HB5.out.size))).mono ?_; rintro e w7 ⟨x1,x2,x3,x4,x5,rfl,hb7⟩; have HB7 : Hid (Below w5.heap.size w5 w7) := HB6.out.trans (hb7.mono HB6.out.size); clear hb7) | (go_at_call 159; refine (remove_index (w7.alloc (.cells #[.int .i64 x1,.int .i64 x2,.int .i64 x3,.map x4,.map x5] 100))).mono ?_; intro e w8 hM; have hb8 : Below w5.heap.size w5 (w7.alloc (.cells #[.int .i64 x1,.int .i64 x2,.int .i64 x3,.map x4,.map x5] 100)) := HB7.out.alloc HB7.out.size _; obtain ⟨u1,u2,k3,caps3,rfl,hT,hb⟩ := hM.form; obtain ⟨g3,cap3,w9,hrun,hrow,hB9⟩ := HSN.out (w7.alloc (.cells #[.int .i64 x1,.int .i64 x2,.int .i64 x3,.map x4,.map x5] 100)) w8 _ [stCut 0 m,stSync 0] (stRemove 2) u1 u2 k3 caps3 3 rfl (HROW5.out.below hb8) (HB5.out.trans (hb8.mono HB5.out.size)) hT hb fine_remove (by simp); have R3 : Hid _ := hrun; have HROW9 : Hid (StepsRow w.heap.size q.Fd w9 (.slice (some ⟨g3,0,none⟩) 3 cap3) [stCut 0 m,stSync 0,stRemove 2]) := hrow; have HB9 : Hid (Below w.heap.size w w9) := hB9; clear hrow hB9 hT hb hM hrun hb8) | (at_builtin; refine wp_append_run rfl (.tmp 44) (.tmp 46) 132 132 rfl rfl rfl R3.out ?_))
    go_ret
    exact ⟨_,rfl,by rw [HM.out]; exact HROW9.out,HB9.out⟩
 ·have hme : m = log.length := by omega
  have hwl : log.take m = log := by rw [hme]; exact List.take_length
  cases h2 : d.f2 with
  | none =>
   rw [hwl]
   have HM : Hid (d.mending log = [stSync 0]) := by
    show _ = _
    rw [mending_at,<- hm,if_neg hc,h2]
    rfl
   rw [fileR_no (i := 2) hd (by omega) h2] at HR2
   clear hE hG hS hok hd hm hc h2 hl
   go_enter Tryz.func107,Tryz.ntmps107
   go_wp2_with (first | (go_at_call 43; refine (sync_log w).mono ?_; intro e w4 hM; obtain ⟨t1,t2,k2,caps2,rfl,hT,hb⟩ := hM.form; obtain ⟨g2,cap2,w5,hrun,hrow,hB5⟩ := HSN.out w w4 _ [] (stSync 0) t1 t2 k2 caps2 1 rfl HN0.out (Below.refl _ _) hT hb stSync_fine (by simp); have R2 : Hid _ := hrun; have HROW5 : Hid (StepsRow w.heap.size q.Fd w5 (.slice (some ⟨g2,0,none⟩) 1 cap2) [stSync 0]) := hrow; have HB5 : Hid (Below w.heap.size w w5) := hB5; have c5 := HC0.out w5 hB5; clear hrow hB5 hT hb hM hrun) | (at_builtin; refine wp_append_run rfl (.tmp 21) (.tmp 23) 132 132 rfl rfl rfl R2.out ?_) | (go_at_call 50; refine (HR2.out w5 HB5.out).mono ?_; rintro e w6 ⟨ev,rfl,hf,hb6⟩; obtain ⟨b,rfl⟩ := fault_some hf (by decide); have HB6 : Hid (Below w5.heap.size w5 w6) := hb6; clear hf hb6))
   go_ret
   exact ⟨_,rfl,by rw [HM.out]; exact HROW5.out.below HB6.out,HB5.out.trans (HB6.out.mono HB5.out.size)⟩
  | some f =>
   have hfl : f.text.length <= 100000 := by
    have h5 := hok.used
    have h6 := hok.room
    unfold Dk.used at h5
    rw [h2] at h5
    simp only [lenF] at h5
    omega
   rw [fileR_up (i := 2) hd (by omega) h2] at HR2
   have HSD : Hid (∀ w1 : World,Below w.heap.size w w1 -> Calls Tryz.prog 83 #[.string (S (log.take m)),.string (S f.text)] w1 fun e w' => ∃ (a b c : Int) (x y : Option Nat),e = .returned (.tuple #[.agg #[.int .i64 a,.int .i64 b,.int .i64 c,.map x,.map y],.int .i64 (saidE (log.take m) f.text)]) /\ Below w1.heap.size w1 w') := fun w1 hb => said_code (log.take m) f.text w1 (by rw [List.length_take]; omega) hfl (HEV.out w1 hb).halves
   by_cases hs : saidE (log.take m) f.text = 0
   ·have HM : Hid (d.mending log = [stSync 0]) := by
     show _ = _
     rw [mending_at,<- hm,if_neg hc,h2]
     simp only
     rw [if_pos hs]
     rfl
    rw [hs] at HSD
    rw [hwl] at HSD hs
    rw [hwl]
    clear hE hG hS hok hd hm hc h2 hl
    go_enter Tryz.func107,Tryz.ntmps107
    go_wp2_with (first | (go_at_call 43; refine (sync_log w).mono ?_; intro e w4 hM; obtain ⟨t1,t2,k2,caps2,rfl,hT,hb⟩ := hM.form; obtain ⟨g2,cap2,w5,hrun,hrow,hB5⟩ := HSN.out w w4 _ [] (stSync 0) t1 t2 k2 caps2 1 rfl HN0.out (Below.refl _ _) hT hb stSync_fine (by simp); have R2 : Hid _ := hrun; have HROW5 : Hid (StepsRow w.heap.size q.Fd w5 (.slice (some ⟨g2,0,none⟩) 1 cap2) [stSync 0]) := hrow; have HB5 : Hid (Below w.heap.size w w5) := hB5; have c5 := HC0.out w5 hB5; clear hrow hB5 hT hb hM hrun) | (at_builtin; refine wp_append_run rfl (.tmp 21) (.tmp 23) 132 132 rfl rfl rfl R2.out ?_) | (go_at_call 50; refine (HR2.out w5 HB5.out).mono ?_; rintro e w6 ⟨ev,rfl,hf,hb6⟩; obtain rfl := fault_nil hf; have HB6 : Hid (Below w5.heap.size w5 w6) := hb6; clear hf hb6) | (go_at_call 83; refine (HSD.out w6 (HB5.out.trans (HB6.out.mono HB5.out.size))).mono ?_; rintro e w7 ⟨x1,x2,x3,x4,x5,rfl,hb7⟩; have HB7 : Hid (Below w5.heap.size w5 w7) := HB6.out.trans (hb7.mono HB6.out.size); clear hb7))
    go_ret
    exact ⟨_,rfl,by rw [HM.out]; exact HROW5.out.below (HB7.out.alloc HB7.out.size _),HB5.out.trans ((HB7.out.alloc HB7.out.size _).mono HB5.out.size)⟩
   ·have HM : Hid (d.mending log = [stSync 0,stRemove 2]) := by
     show _ = _
     rw [mending_at,<- hm,if_neg hc,h2]
     simp only
     rw [if_neg hs]
     rfl
    rw [hwl] at HSD hs
    rw [hwl]
    clear hE hG hS hok hd hm hc h2 hl
    go_enter Tryz.func107,Tryz.ntmps107
    go_wp2_with (first | (go_at_call 43; refine (sync_log w).mono ?_; intro e w4 hM; obtain ⟨t1,t2,k2,caps2,rfl,hT,hb⟩ := hM.form; obtain ⟨g2,cap2,w5,hrun,hrow,hB5⟩ := HSN.out w w4 _ [] (stSync 0) t1 t2 k2 caps2 1 rfl HN0.out (Below.refl _ _) hT hb stSync_fine (by simp); have R2 : Hid _ := hrun; have HROW5 : Hid (StepsRow w.heap.size q.Fd w5 (.slice (some ⟨g2,0,none⟩) 1 cap2) [stSync 0]) := hrow; have HB5 : Hid (Below w.heap.size w w5) := hB5; have c5 := HC0.out w5 hB5; clear hrow hB5 hT hb hM hrun) | (at_builtin; refine wp_append_run rfl (.tmp 21) (.tmp 23) 132 132 rfl rfl rfl R2.out ?_) | (go_at_call 50; refine (HR2.out w5 HB5.out).mono ?_; rintro e w6 ⟨ev,rfl,hf,hb6⟩; obtain rfl := fault_nil hf; have HB6 : Hid (Below w5.heap.size w5 w6) := hb6; clear hf hb6) | (go_at_call 83; refine (HSD.out w6 (HB5.out.trans (HB6.out.mono HB5.out.size))).mono ?_; rintro e w7 ⟨x1,x2,x3,x4,x5,rfl,hb7⟩; have HB7 : Hid (Below w5.heap.size w5 w7) := HB6.out.trans (hb7.mono HB6.out.size); clear hb7) | (go_at_call 159; refine (remove_index (w7.alloc (.cells #[.int .i64 x1,.int .i64 x2,.int .i64 x3,.map x4,.map x5] 100))).mono ?_; intro e w8 hM; have hb8 : Below w5.heap.size w5 (w7.alloc (.cells #[.int .i64 x1,.int .i64 x2,.int .i64 x3,.map x4,.map x5] 100)) := HB7.out.alloc HB7.out.size _; obtain ⟨u1,u2,k3,caps3,rfl,hT,hb⟩ := hM.form; obtain ⟨g3,cap3,w9,hrun,hrow,hB9⟩ := HSN.out (w7.alloc (.cells #[.int .i64 x1,.int .i64 x2,.int .i64 x3,.map x4,.map x5] 100)) w8 _ [stSync 0] (stRemove 2) u1 u2 k3 caps3 2 rfl (HROW5.out.below hb8) (HB5.out.trans (hb8.mono HB5.out.size)) hT hb fine_remove (by simp); have R3 : Hid _ := hrun; have HROW9 : Hid (StepsRow w.heap.size q.Fd w9 (.slice (some ⟨g3,0,none⟩) 2 cap3) [stSync 0,stRemove 2]) := hrow; have HB9 : Hid (Below w.heap.size w w9) := hB9; clear hrow hB9 hT hb hM hrun hb8) | (at_builtin; refine wp_append_run rfl (.tmp 44) (.tmp 46) 132 132 rfl rfl rfl R3.out ?_))
    go_ret
    exact ⟨_,rfl,by rw [HM.out]; exact HROW9.out,HB9.out⟩
theorem readL_le {log : List UInt8} {blk : Int} {a : Nat} (h : a <= log.length) : (readL log blk a).2 <= log.length := by
 obtain ⟨N,hN⟩ : ∃ N,N = log.length - a := ⟨_,rfl⟩
 induction N using Nat.strongRecOn generalizing a with
 | _ N ih =>
  cases hb : blockP log a blk with
  | none => rw [readL_none hb]; exact h
  | some r =>
   obtain ⟨es,k⟩ := r
   rw [readL_some hb]
   have hs := blockP_some hb
   exact ih (log.length - (a + k)) (by omega) (by omega) rfl
theorem headB_len {l : List UInt8} (h : headB l = true) : 14 <= l.length := by
 unfold headB at h
 simp at h
 omega
theorem mend_down {d : Dk} (h : d.down = true) : d.mend = (7,d) := by unfold Dk.mend; rw [if_pos h]
theorem mend_none {d : Dk} (h : d.down = false) (h0 : d.f0 = none) : d.mend = (2,d) := by unfold Dk.mend; rw [if_neg (by simp [h]),h0]
theorem mend_form {d : Dk} {f : Fl} (h : d.down = false) (h0 : d.f0 = some f) (hh : headB f.text = false) : d.mend = (3,d) := by unfold Dk.mend; rw [if_neg (by simp [h]),h0]; simp only; rw [if_pos hh]
theorem mend_goes {d : Dk} {f : Fl} (h : d.down = false) (h0 : d.f0 = some f) (hh : headB f.text = true) : d.mend = d.opening (hdBlk f.text) (d.mending f.text) := by unfold Dk.mend; rw [if_neg (by simp [h]),h0]; simp only; rw [if_neg (by simp [hh])]
theorem mending_some (d : Dk) (l : List UInt8) : 0 < (d.mending l).length /\ (d.mending l).length <= 3 := by
 rw [mending_at]
 cases d.f2 with
 | none => split <;> simp
 | some g => simp only; split <;> split <;> simp
theorem smend_any (E : Sent) (n : Nat) (G : Nat -> Prop) (bs : Nat) (d : Dk) (q : StP) (w : World) (hE : Env0 n w E) (hG : ∀ k,G k -> n <= k /\ k < w.heap.size) (hS : StoreAt w G bs d q) (hok : DkOk d) :
  Calls Tryz.prog 59 #[.pointer (some ⟨bs,0,none⟩)] w fun e w' => e = .returned (.int .i64 d.mend.1) /\ Done E G bs w d.mend.2 w' := by
 have c0 : w.cell? ⟨bs,0,none⟩ = some (.pointer (some ⟨q.bd,0,none⟩)) := hS.box.cell (j := 0) rfl
 have HR0 : Calls Tryz.prog 50 #[.pointer (some ⟨q.bd,0,none⟩),.string ⟨#[108,111,103]⟩] w fun e w' => ∃ ev,e = .returned (.tuple #[.string (S (d.fileR (nm 0)).1),ev]) /\ FaultIs w' E (d.fileR (nm 0)).2 ev /\ Below w.heap.size w w' := read_disk E n q.Fd q.bd d q.p ⟨#[108,111,103]⟩ w hE hS.disk (by decide)
 have HS0 : Hid (∀ w1 : World,Below w.heap.size w w1 -> Done E G bs w d w1) := fun w1 hb => ⟨⟨q,(hS.below hb).mono (fun k h => .inl h)⟩,Chg.of_below hb⟩
 have HEV : Hid (∀ w1 : World,Below w.heap.size w w1 -> Env w1 E) := fun w1 hb => hE.env.below hb
 cases hd : d.down with
 | true =>
  rw [fileR_dn hd] at HR0
  have HV : Hid (d.mend = (7,d)) := mend_down hd
  clear hE hS hG hok
  go_enter Tryz.func59,Tryz.ntmps59
  go_wp2_with (first | (go_at_call 50; refine HR0.mono ?_; rintro e w1 ⟨ev,rfl,hf,hb⟩; obtain ⟨b,rfl⟩ := fault_some hf (by decide); have HFA : Hid (FaultIs w1 E 7 (.iface 128 (.pointer (some ⟨b,0,none⟩)))) := hf; have HB : Hid (Below w.heap.size w w1) := hb; clear hf hb) | (go_at_call 41; refine (answer_any E 7 _ w1 (HEV.out w1 HB.out) HFA.out (by decide)).mono ?_; rintro e w2 ⟨rfl,hb2⟩; have HB2 : Hid (Below w.heap.size w w2) := HB.out.trans (hb2.mono HB.out.size); clear hb2))
  go_ret
  exact ⟨by rw [HV.out]; rfl,by rw [HV.out]; exact HS0.out _ HB2.out⟩
 | false =>
  cases h0 : d.f0 with
  | none =>
   rw [fileR_no (i := 0) hd (by omega) h0] at HR0
   have HV : Hid (d.mend = (2,d)) := mend_none hd h0
   clear hE hS hG hok
   go_enter Tryz.func59,Tryz.ntmps59
   go_wp2_with (first | (go_at_call 50; refine HR0.mono ?_; rintro e w1 ⟨ev,rfl,hf,hb⟩; obtain ⟨b,rfl⟩ := fault_some hf (by decide); have HFA : Hid (FaultIs w1 E 2 (.iface 128 (.pointer (some ⟨b,0,none⟩)))) := hf; have HB : Hid (Below w.heap.size w w1) := hb; clear hf hb) | (go_at_call 41; refine (answer_any E 2 _ w1 (HEV.out w1 HB.out) HFA.out (by decide)).mono ?_; rintro e w2 ⟨rfl,hb2⟩; have HB2 : Hid (Below w.heap.size w w2) := HB.out.trans (hb2.mono HB.out.size); clear hb2))
   go_ret
   exact ⟨by rw [HV.out]; rfl,by rw [HV.out]; exact HS0.out _ HB2.out⟩
  | some f =>
   rw [fileR_up (i := 0) hd (by omega) h0] at HR0
   have hfl : f.text.length <= 100000 := by
    have h1 := hok.used
    have h2 := hok.room
    unfold Dk.used at h1
    rw [h0] at h1
    simp only [lenF] at h1
    omega
   have HRH : Hid (∀ w1 : World,Below w.heap.size w w1 -> Calls Tryz.prog 87 #[.string (S f.text)] w1 fun e w' => e = .returned (.tuple #[headV f.text,.bool (headB f.text)]) /\ Below w1.heap.size w1 w') := fun w1 hb => by
    have := readHead_any (S f.text) w1 (by rw [S_size]; omega) (HEV.out w1 hb).halves
    rwa [S_data] at this
   cases hh : headB f.text with
   | false =>
    have HV : Hid (d.mend = (3,d)) := mend_form hd h0 hh
    have hv : headV f.text = .agg #[.int .i64 0,.int .i64 0,.int .i64 0] := by unfold headV; rw [if_neg (by simp [hh])]
    rw [hh,hv] at HRH
    clear hE hS hG hok hfl hh hv
    go_enter Tryz.func59,Tryz.ntmps59
    go_wp2_with (first | (go_at_call 50; refine HR0.mono ?_; rintro e w1 ⟨ev,rfl,hf,hb⟩; obtain rfl := fault_nil hf; have HB : Hid (Below w.heap.size w w1) := hb; clear hf hb) | (go_at_call 87; refine (HRH.out w1 HB.out).mono ?_; rintro e w2 ⟨rfl,hb2⟩; have HB2 : Hid (Below w.heap.size w w2) := HB.out.trans (hb2.mono HB.out.size); clear hb2))
    go_ret
    exact ⟨by rw [HV.out]; rfl,by rw [HV.out]; exact HS0.out _ (HB2.out.alloc HB2.out.size _)⟩
   | true =>
    have HV : Hid (d.mend = d.opening (hdBlk f.text) (d.mending f.text)) := mend_goes hd h0 hh
    have h14 := headB_len hh
    rw [hh,headV_ok hh] at HRH
    obtain ⟨m,hm⟩ : ∃ m,m = (readL f.text (hdBlk f.text) 14).2 := ⟨_,rfl⟩
    have hml : m <= f.text.length := by rw [hm]; exact readL_le h14
    have HWH : Hid (∀ w1 : World,Below w.heap.size w w1 -> Calls Tryz.prog 108 #[.string (S f.text),.agg #[.int .i64 (hdBlk f.text : Int),.int .i64 (hdSeed f.text : Int),.int .i64 (hdBits f.text : Int)]] w1 fun e w' => e = .returned (.string (S (f.text.take m))) /\ Below w1.heap.size w1 w') := fun w1 hb => by
     have := whole_any (S f.text) (by rw [S_size]; omega) (hdBlk f.text) (hdSeed f.text) (hdBits f.text) w1 (HEV.out w1 hb).halves (by rw [S_size]; omega)
     rw [S_data,<- hm] at this
     exact this
    have hE1 : ∀ w1 : World,Below w.heap.size w w1 -> Env0 n w1 E := fun w1 hb => hE.chg (F := fun _ => False) (Chg.of_below hb) (fun _ h => h.elim)
    have hG1 : ∀ w1 : World,Below w.heap.size w w1 -> ∀ k,G k -> n <= k /\ k < w1.heap.size := fun w1 hb k hk => ⟨(hG k hk).1,Nat.lt_of_lt_of_le (hG k hk).2 hb.size⟩
    have HMD : Hid (∀ w1 : World,Below w.heap.size w w1 -> Calls Tryz.prog 107 #[.pointer (some ⟨bs,0,none⟩),.string (S f.text),.string (S (f.text.take m))] w1 fun e w' => ∃ g cap cs,e = .returned (.slice (some ⟨g,0,none⟩) (d.mending f.text).length cap) /\ (d.mending f.text).length <= cap /\ StepsAt w' q.Fd g cs (d.mending f.text) /\ Below w1.heap.size w1 w') := fun w1 hb => by
     refine (mending_any E n G bs d q f.text m w1 (hE1 w1 hb) (hG1 w1 hb) (hS.below hb) hok hd hfl hm hml).mono ?_
     rintro e w' ⟨v,rfl,hrow,hb'⟩
     obtain ⟨g,cap,cs,rfl,hcap,hT⟩ := hrow.steps (fun k hk => Nat.lt_of_lt_of_le (hG k (hS.gd k hk)).2 hb.size) (mending_some d f.text).1
     exact ⟨g,cap,cs,rfl,hcap,hT,hb'⟩
    have HOP : Hid (∀ (w1 : World) (g cap : Nat) (cs : Array Value),Below w.heap.size w w1 -> (d.mending f.text).length <= cap -> StepsAt w1 q.Fd g cs (d.mending f.text) -> Calls Tryz.prog 70 #[.pointer (some ⟨bs,0,none⟩),.agg #[.int .i64 (hdBlk f.text : Int),.int .i64 (hdSeed f.text : Int),.int .i64 (hdBits f.text : Int)],.slice (some ⟨g,0,none⟩) (d.mending f.text).length cap] w1 fun e w' => e = .returned (.int .i64 (d.opening (hdBlk f.text) (d.mending f.text)).1) /\ Done E G bs w (d.opening (hdBlk f.text) (d.mending f.text)).2 w' /\ Chg G w1 w') := fun w1 g cap cs hb hcap hT =>
     (sopen_any E n G bs d q (hdBlk f.text) (hdSeed f.text) (hdBits f.text) g cap cs (d.mending f.text) w1 (hE1 w1 hb) (hG1 w1 hb) (hS.below hb) hok hd hT hcap (by have := (mending_some d f.text).2; omega)).mono fun e w' ⟨a1,a2⟩ => ⟨a1,a2.later hb,a2.2⟩
    have HNG : Hid (∀ b,w.heap.size <= b -> ¬ G b) := fun b hb h => by have := (hG b h).2; omega
    generalize d.opening (hdBlk f.text) (d.mending f.text) = r at *
    generalize d.mending f.text = ss at *
    generalize hdBlk f.text = k1 at *
    generalize hdSeed f.text = k2 at *
    generalize hdBits f.text = k3 at *
    clear hE hS hG hok hfl hh hE1 hG1 hm hml h14
    go_enter Tryz.func59,Tryz.ntmps59
    go_wp2_with (first | (go_at_call 50; refine HR0.mono ?_; rintro e w1 ⟨ev,rfl,hf,hb⟩; obtain rfl := fault_nil hf; have HB : Hid (Below w.heap.size w w1) := hb; clear hf hb) | (go_at_call 87; refine (HRH.out w1 HB.out).mono ?_; rintro e w2 ⟨rfl,hb2⟩; have HB2 : Hid (Below w.heap.size w w2) := HB.out.trans (hb2.mono HB.out.size); clear hb2))
    have hx : Bx (w2.alloc (.cells #[.int .i64 (k1 : Int),.int .i64 (k2 : Int),.int .i64 (k3 : Int)] 29)) w2.heap.size #[.int .i64 (k1 : Int),.int .i64 (k2 : Int),.int .i64 (k3 : Int)] 29 := bx_new w2 _ _ rfl
    have kk : (w2.alloc (.cells #[.int .i64 (k1 : Int),.int .i64 (k2 : Int),.int .i64 (k3 : Int)] 29)).cell? ⟨w2.heap.size,0,none⟩ = some (.int .i64 (k1 : Int)) /\ (w2.alloc (.cells #[.int .i64 (k1 : Int),.int .i64 (k2 : Int),.int .i64 (k3 : Int)] 29)).cell? ⟨w2.heap.size,1,none⟩ = some (.int .i64 (k2 : Int)) /\ (w2.alloc (.cells #[.int .i64 (k1 : Int),.int .i64 (k2 : Int),.int .i64 (k3 : Int)] 29)).cell? ⟨w2.heap.size,2,none⟩ = some (.int .i64 (k3 : Int)) := ⟨hx.cell (j := 0) rfl,hx.cell (j := 1) rfl,hx.cell (j := 2) rfl⟩
    have HB3 : Hid (Below w.heap.size w (w2.alloc (.cells #[.int .i64 (k1 : Int),.int .i64 (k2 : Int),.int .i64 (k3 : Int)] 29))) := HB2.out.alloc HB2.out.size _
    have HNB : Hid (¬ G w2.heap.size) := HNG.out _ HB2.out.size
    clear hx
    generalize w2.alloc (.cells #[.int .i64 (k1 : Int),.int .i64 (k2 : Int),.int .i64 (k3 : Int)] 29) = W3 at *
    generalize w2.heap.size = bx at *
    go_region_held3 (fun w' => w'.cell? ⟨bx,0,none⟩ = some (.int .i64 (k1 : Int)) /\ w'.cell? ⟨bx,1,none⟩ = some (.int .i64 (k2 : Int)) /\ w'.cell? ⟨bx,2,none⟩ = some (.int .i64 (k3 : Int))) (first | (exact kk) | (assumption) | (exact crS_next (by assumption) (by assumption)) | (exact crS_chg (by assumption) (by assumption) HNB.out)) (first | (go_at_call 108; refine (HWH.out _ HB3.out.drew).mono ?_; rintro e wh ⟨rfl,hbh⟩) | (go_at_call 107; refine (HMD.out wh (HB3.out.drew.trans (hbh.mono HB3.out.size))).mono ?_; rintro e wm ⟨g,cap,cs,rfl,hcap,hT,hbm⟩) | (go_at_call 70; refine (HOP.out wm g cap cs ((HB3.out.drew.trans (hbh.mono HB3.out.size)).trans (hbm.mono (Nat.le_trans HB3.out.size hbh.size))) hcap hT).mono ?_; rintro e wo ⟨rfl,hdn,hchg⟩))
    all_goals
     go_wp2
     go_ret
     exact ⟨by rw [HV.out]; rfl,by rw [HV.out]; exact hdn⟩
end Go.Proofs.YtdhgebdbiehchaaGreatDoor
namespace Go.Proofs.YtdhgebdbiehchaaGreatDoor
open Go.RowKit
set_option linter.unusedSimpArgs false
set_option linter.unusedVariables false
theorem DkOk.fail {d : Dk} (h : DkOk d) (s k : Int) : DkOk (d.fail s k).2 := by
 unfold Dk.fail
 split
 ·exact h
 ·split
  ·exact h
  ·split
   ·exact h.falls _
   ·exact h.lefts _ _
theorem DkOk.start {d : Dk} (h : DkOk d) : DkOk d.start.2 := by
 unfold Dk.start
 split
 ·rename_i hd
  exact ⟨h.room,h.used,h.sync,fun blk hb => absurd (h.opn blk hb).2.2.2 (by rw [hd]; simp),h.waits,h.ents,h.most,h.size⟩
 ·exact h
theorem mending_fine (d : Dk) (l : List UInt8) : ∀ s ∈ d.mending l,StFine s := by
 intro s hs
 rw [mending_at] at hs
 rw [List.mem_append,List.mem_append] at hs
 rcases hs with (hs | hs) | hs
 ·split at hs
  ·simp at hs; subst hs; exact fine_cut _ _
  ·simp at hs
 ·simp at hs; subst hs; exact fine_sync _
 ·split at hs
  ·simp at hs
  ·split at hs
   ·simp at hs
   ·simp at hs; subst hs; exact fine_remove
theorem DkOk.mend {d : Dk} (h : DkOk d) : DkOk d.mend.2 := by
 cases hd : d.down with
 | true => rw [mend_down hd]; exact h
 | false =>
  cases h0 : d.f0 with
  | none => rw [mend_none hd h0]; exact h
  | some f =>
   cases hh : headB f.text with
   | false => rw [mend_form hd h0 hh]; exact h
   | true =>
    rw [mend_goes hd h0 hh]
    have hw := head_well hh
    exact h.opening (mending_fine d f.text) hd (by omega) (by omega) (fun _ => steps_f0 (by rw [h0]; rfl) _ (mending_fine d f.text))
end Go.Proofs.YtdhgebdbiehchaaGreatDoor
namespace Go.Proofs.YtdhgebdbiehchaaGreatDoor
open Go.RowKit Go.Maps
set_option linter.unusedSimpArgs false
set_option linter.unusedVariables false
theorem DkOk.build {d : Dk} (h : DkOk d) : DkOk d.build.2 := by
 unfold Dk.build
 split
 ·exact h
 ·split
  ·exact h
  ·split
   ·exact h
   ·refine h.steps _ ?_
    intro s hs
    simp only [List.mem_cons,List.not_mem_nil,or_false] at hs
    rcases hs with rfl | rfl | rfl | rfl
    ·exact fine_make _
    ·exact fine_append _ _
    ·exact fine_sync _
    ·exact ⟨by simp [stRename],by simp [stRename],by simp [stRename]⟩
end Go.Proofs.YtdhgebdbiehchaaGreatDoor
