/- On the way: PGet, RfBuild, PSaid. -/
import Derived.Test.YtdhgebdbiehchaaGreatDoorB38
import Derived.Test.YtdhgebdbiehchaaGreatDoorB28
import Derived.Test.YtdhgebdbiehchaaGreatDoorB39
import Derived.Test.YtdhgebdbiehchaaGreatDoorB29
import Derived.Test.YtdhgebdbiehchaaGreatDoorB26
namespace Go.Proofs.YtdhgebdbiehchaaGreatDoor
open Go.RowKit Go.Maps
set_option linter.unusedSimpArgs false
set_option linter.unusedVariables false
set_option maxRecDepth 100000
set_option maxHeartbeats 3200000
def Dk.readS (d : Dk) : List UInt8 × List UInt8 × Int := if d.down = true then ([],[],7) else match d.both with
 | none => ([],[],2)
 | some (l,i) => (l,i,0)
theorem fileR_up {d : Dk} {i : Nat} {f : Fl} (hd : d.down = false) (hi : i <= 2) (hf : d.file i = some f) : d.fileR (nm i) = (f.text,0) := by unfold Dk.fileR; rw [if_neg (by simp [hd]),nameN_nm hi,hf]
theorem fileR_no {d : Dk} {i : Nat} (hd : d.down = false) (hi : i <= 2) (hf : d.file i = none) : d.fileR (nm i) = ([],2) := by unfold Dk.fileR; rw [if_neg (by simp [hd]),nameN_nm hi,hf]
theorem fileR_dn {d : Dk} {l : List UInt8} (hd : d.down = true) : d.fileR l = ([],7) := by unfold Dk.fileR; rw [if_pos hd]
theorem readS_any (E : Sent) (n : Nat) (G : Nat -> Prop) (bs : Nat) (d : Dk) (q : StP) (w : World) (hE : Env0 n w E) (hS : StoreAt w G bs d q) :
  Calls Tryz.prog 80 #[.pointer (some ⟨bs,0,none⟩)] w fun e w' => ∃ ev,e = .returned (.tuple #[.string (S d.readS.1),.string (S d.readS.2.1),ev]) /\ FaultIs w' E d.readS.2.2 ev /\ Below w.heap.size w w' := by
 have HC : Hid (∀ w1 : World,Below w.heap.size w w1 -> w1.cell? ⟨bs,0,none⟩ = some (.pointer (some ⟨q.bd,0,none⟩))) := fun w1 hb => (hS.box.below hb hS.box.lt).cell (j := 0) rfl
 have c0 := HC.out w (Below.refl _ _)
 have HR0 : Calls Tryz.prog 50 #[.pointer (some ⟨q.bd,0,none⟩),.string ⟨#[108,111,103]⟩] w fun e w' => ∃ ev,e = .returned (.tuple #[.string (S (d.fileR (nm 0)).1),ev]) /\ FaultIs w' E (d.fileR (nm 0)).2 ev /\ Below w.heap.size w w' := read_disk E n q.Fd q.bd d q.p ⟨#[108,111,103]⟩ w hE hS.disk (by decide)
 have HR2 : Hid (∀ w1 : World,Below w.heap.size w w1 -> Calls Tryz.prog 50 #[.pointer (some ⟨q.bd,0,none⟩),.string ⟨#[105,110,100,101,120]⟩] w1 fun e w' => ∃ ev,e = .returned (.tuple #[.string (S (d.fileR (nm 2)).1),ev]) /\ FaultIs w' E (d.fileR (nm 2)).2 ev /\ Below w1.heap.size w1 w') := fun w1 hb => read_disk E n q.Fd q.bd d q.p ⟨#[105,110,100,101,120]⟩ w1 (hE.below (hb.mono hE.le)) (hS.disk.below hb) (by decide)
 cases hd : d.down with
 | true =>
  rw [fileR_dn hd] at HR0
  have HV : Hid (d.readS = ([],[],7)) := by show _ = _; unfold Dk.readS; rw [if_pos hd]
  clear hE hS HR2
  go_enter Tryz.func80,Tryz.ntmps80
  go_wp2_with (first | (go_at_call 50; refine HR0.mono ?_; rintro e w1 ⟨ev,rfl,hf,hb⟩; obtain ⟨b,rfl⟩ := fault_some hf (by decide); have HFA : Hid (FaultIs w1 E 7 (.iface 128 (.pointer (some ⟨b,0,none⟩)))) := hf; have HB : Hid (Below w.heap.size w w1) := hb; clear hf hb))
  go_ret3
  exact ⟨_,by rw [HV.out]; rfl,by rw [HV.out]; exact HFA.out,HB.out⟩
 | false =>
  cases h0 : d.f0 with
  | none =>
   rw [fileR_no (i := 0) hd (by omega) h0] at HR0
   have HV : Hid (d.readS = ([],[],2)) := by show _ = _; unfold Dk.readS Dk.both; rw [if_neg (by simp [hd]),h0]
   clear hE hS HR2
   go_enter Tryz.func80,Tryz.ntmps80
   go_wp2_with (first | (go_at_call 50; refine HR0.mono ?_; rintro e w1 ⟨ev,rfl,hf,hb⟩; obtain ⟨b,rfl⟩ := fault_some hf (by decide); have HFA : Hid (FaultIs w1 E 2 (.iface 128 (.pointer (some ⟨b,0,none⟩)))) := hf; have HB : Hid (Below w.heap.size w w1) := hb; clear hf hb))
   go_ret3
   exact ⟨_,by rw [HV.out]; rfl,by rw [HV.out]; exact HFA.out,HB.out⟩
  | some f =>
   rw [fileR_up (i := 0) hd (by omega) h0] at HR0
   cases h2 : d.f2 with
   | none =>
    rw [fileR_no (i := 2) hd (by omega) h2] at HR2
    have HV : Hid (d.readS = ([],[],2)) := by show _ = _; unfold Dk.readS Dk.both; rw [if_neg (by simp [hd]),h0,h2]
    clear hE hS
    go_enter Tryz.func80,Tryz.ntmps80
    go_wp2_with (first | (go_at_call_of 50 (Value.string ⟨#[108,111,103]⟩); refine HR0.mono ?_; rintro e w1 ⟨ev,rfl,hf,hb⟩; obtain rfl := fault_nil hf; have k0 := HC.out w1 hb; have HB : Hid (Below w.heap.size w w1) := hb; clear hf hb) | (go_at_call_of 50 (Value.string ⟨#[105,110,100,101,120]⟩); refine (HR2.out w1 HB.out).mono ?_; rintro e w2 ⟨ev,rfl,hf,hb⟩; obtain ⟨b,rfl⟩ := fault_some hf (by decide); have HFA : Hid (FaultIs w2 E 2 (.iface 128 (.pointer (some ⟨b,0,none⟩)))) := hf; have HB2 : Hid (Below w.heap.size w w2) := HB.out.trans (hb.mono HB.out.size); clear hf hb))
    go_ret3
    exact ⟨_,by rw [HV.out]; rfl,by rw [HV.out]; exact HFA.out,HB2.out⟩
   | some g =>
    rw [fileR_up (i := 2) hd (by omega) h2] at HR2
    have HV : Hid (d.readS = (f.text,g.text,0)) := by show _ = _; unfold Dk.readS Dk.both; rw [if_neg (by simp [hd]),h0,h2]
    clear hE hS
    go_enter Tryz.func80,Tryz.ntmps80
    go_wp2_with (first | (go_at_call_of 50 (Value.string ⟨#[108,111,103]⟩); refine HR0.mono ?_; rintro e w1 ⟨ev,rfl,hf,hb⟩; obtain rfl := fault_nil hf; have k0 := HC.out w1 hb; have HB : Hid (Below w.heap.size w w1) := hb; clear hf hb) | (go_at_call_of 50 (Value.string ⟨#[105,110,100,101,120]⟩); refine (HR2.out w1 HB.out).mono ?_; rintro e w2 ⟨ev,rfl,hf,hb⟩; obtain rfl := fault_nil hf; have HFA : Hid (FaultIs w2 E 0 .nilIface) := hf; have HB2 : Hid (Below w.heap.size w w2) := HB.out.trans (hb.mono HB.out.size); clear hf hb))
    go_ret3
    exact ⟨_,by rw [HV.out]; rfl,by rw [HV.out]; exact HFA.out,HB2.out⟩
theorem both_le {d : Dk} {l i : List UInt8} (hok : DkOk d) (h : d.both = some (l,i)) : l.length <= 100000 /\ i.length <= 100000 := by
 unfold Dk.both at h
 have h1 := hok.used
 have h2 := hok.room
 unfold Dk.used at h1
 split at h
 ·rename_i f g e1 e2
  cases h
  rw [e1,e2] at h1
  simp only [lenF] at h1
  omega
 ·cases h
theorem get_any (E : Sent) (n : Nat) (G : Nat -> Prop) (bs : Nat) (d : Dk) (q : StP) (s : ByteArray) (w : World) (hE : Env0 n w E) (hS : StoreAt w G bs d q) (hok : DkOk d) (hs : s.size <= 140737488351232) :
  Calls Tryz.prog 46 #[.pointer (some ⟨bs,0,none⟩),.string s] w fun e w' => e = .returned (.tuple #[.string (S (d.get s.data.toList).1),.int .i64 (d.get s.data.toList).2]) /\ Below w.heap.size w w' := by
 have HRD := readS_any E n G bs d q w hE hS
 have HEV : Hid (∀ w1 : World,Below w.heap.size w w1 -> Env w1 E) := fun w1 hb => hE.env.below hb
 cases hd : d.down with
 | true =>
  have hr : d.readS = ([],[],7) := by unfold Dk.readS; rw [if_pos hd]
  have HV : Hid (d.get s.data.toList = ([],7)) := by show _ = _; unfold Dk.get; rw [if_pos hd]
  rw [hr] at HRD
  clear hE hS hr hok
  go_enter Tryz.func46,Tryz.ntmps46
  go_wp2_with (first | (go_at_call 80; refine HRD.mono ?_; rintro e w1 ⟨ev,rfl,hf,hb⟩; obtain ⟨b,rfl⟩ := fault_some hf (by decide); have HFA : Hid (FaultIs w1 E 7 (.iface 128 (.pointer (some ⟨b,0,none⟩)))) := hf; have HB : Hid (Below w.heap.size w w1) := hb; clear hf hb) | (go_at_call 41; refine (answer_any E 7 _ w1 (HEV.out w1 HB.out) HFA.out (by decide)).mono ?_; rintro e w2 ⟨rfl,hb2⟩; have HB2 : Hid (Below w.heap.size w w2) := HB.out.trans (hb2.mono HB.out.size); clear hb2))
  go_ret2
  exact ⟨by rw [HV.out]; rfl,HB2.out⟩
 | false =>
  cases hb : d.both with
  | none =>
   have hr : d.readS = ([],[],2) := by unfold Dk.readS; rw [if_neg (by simp [hd]),hb]
   have HV : Hid (d.get s.data.toList = ([],2)) := by show _ = _; unfold Dk.get; rw [if_neg (by simp [hd]),hb]
   rw [hr] at HRD
   clear hE hS hr hok hb
   go_enter Tryz.func46,Tryz.ntmps46
   go_wp2_with (first | (go_at_call 80; refine HRD.mono ?_; rintro e w1 ⟨ev,rfl,hf,hb⟩; obtain ⟨b,rfl⟩ := fault_some hf (by decide); have HFA : Hid (FaultIs w1 E 2 (.iface 128 (.pointer (some ⟨b,0,none⟩)))) := hf; have HB : Hid (Below w.heap.size w w1) := hb; clear hf hb) | (go_at_call 41; refine (answer_any E 2 _ w1 (HEV.out w1 HB.out) HFA.out (by decide)).mono ?_; rintro e w2 ⟨rfl,hb2⟩; have HB2 : Hid (Below w.heap.size w w2) := HB.out.trans (hb2.mono HB.out.size); clear hb2))
   go_ret2
   exact ⟨by rw [HV.out]; rfl,HB2.out⟩
  | some p =>
   obtain ⟨l,i⟩ := p
   obtain ⟨z1,z2⟩ := both_le hok hb
   have hr : d.readS = (l,i,0) := by unfold Dk.readS; rw [if_neg (by simp [hd]),hb]
   have HV : Hid (d.get s.data.toList = ((lookS l i s.data.toList).val,(lookS l i s.data.toList).err)) := by show _ = _; unfold Dk.get; rw [if_neg (by simp [hd]),hb]
   rw [hr] at HRD
   have HLK : Hid (∀ w1 : World,Below w.heap.size w w1 -> Calls Tryz.prog 47 #[.string (S l),.string (S i),.string s] w1 fun e w' => e = .returned (ansV (lookS l i s.data.toList)) /\ Below w1.heap.size w1 w') := fun w1 hb1 => progLook_any (S l) (S i) s w1 (by rw [S_size]; omega) (by rw [S_size]; omega) hs (HEV.out w1 hb1).halves
   clear hE hS hr hok hb z1 z2
   generalize lookS l i s.data.toList = A at *
   obtain ⟨av,an,ae⟩ := A
   unfold ansV at HLK
   dsimp only at *
   go_enter Tryz.func46,Tryz.ntmps46
   go_wp2_with (first | (go_at_call 80; refine HRD.mono ?_; rintro e w1 ⟨ev,rfl,hf,hb⟩; obtain rfl := fault_nil hf; have HB : Hid (Below w.heap.size w w1) := hb; clear hf hb) | (go_at_call 47; refine (HLK.out w1 HB.out).mono ?_; rintro e w2 ⟨rfl,hb2⟩; have HB2 : Hid (Below w.heap.size w w2) := HB.out.trans (hb2.mono HB.out.size); clear hb2))
   go_ret2
   exact ⟨by rw [HV.out]; rfl,HB2.out⟩
theorem steps_cat (d : Dk) (a b : List St) : d.steps (a ++ b) = if (d.steps a).1 = 0 then (d.steps a).2.steps b else d.steps a := by
 induction a generalizing d with
 | nil => simp [Dk.steps]
 | cons s a ih =>
  rw [List.cons_append,steps_cons,steps_cons]
  split
  ·exact ih _
  ·rfl
theorem one_keeps {d : Dk} {i : Nat} {s : St} (h : (d.file i).isSome = true) (h4 : s.tag ≠ 4) (h5 : s.tag <= 3) (hi : i < 3) : ((d.one s).2.file i).isSome = true := by
 have pk : ∀ (d : Dk) (j : Nat) (f : Fl),(d.file i).isSome = true -> ((d.put j (some f)).file i).isSome = true := fun d j f hd => by
  by_cases hj : j <= 2
  ·rw [file_put _ _ _ _ hj]; split
   ·rfl
   ·exact hd
  ·rcases dk_cases d j (some f) with ⟨e,_⟩ | ⟨e,_⟩ | ⟨e,_⟩ | ⟨_,e⟩
   ·omega
   ·omega
   ·omega
   ·rw [e]; exact hd
 obtain ⟨b,d',hct⟩ : ∃ b d',d.count = (b,d') := ⟨_,_,rfl⟩
 have hd' : (d'.file i).isSome = true := by
  unfold Dk.count at hct
  split at hct
  ·cases hct; exact h
  ·cases hct
   match i,hi with
   | 0,_ => have h' : d.f0.isSome = true := h; show (d.f0.map _).isSome = true; simp [h']
   | 1,_ => have h' : d.f1.isSome = true := h; show (d.f1.map _).isSome = true; simp [h']
   | 2,_ => have h' : d.f2.isSome = true := h; show (d.f2.map _).isSome = true; simp [h']
  ·cases hct; exact h
 cases b with
 | false => rw [one_no hct]; exact hd'
 | true =>
  rw [one_yes hct]
  unfold Dk.take
  split
  ·exact pk _ _ _ hd'
  ·split
   ·exact hd'
   ·split
    ·split
     ·exact hd'
     ·exact pk _ _ _ hd'
    ·split
     ·exact pk _ _ _ hd'
     ·split
      ·exact pk _ _ _ hd'
      ·omega
theorem made_file {d : Dk} {i : Nat} {t : List UInt8} (hi : i < 3) (h0 : (d.steps [stMake i,stAppend i t,stSync i]).1 = 0) : ((d.steps [stMake i,stAppend i t,stSync i]).2.file i).isSome = true := by
 rw [rsteps_three] at h0 ⊢
 split at h0
 ·rename_i h1
  split at h0
  ·rename_i h2
   rw [if_pos h1,if_pos h2]
   exact one_keeps (one_file hi h1 h2) (by simp [stSync]) (by simp [stSync]) hi
  ·rename_i h2; exact absurd h0 h2
 ·rename_i h1; exact absurd h0 h1
theorem refC_rename {d : Dk} {q : RfP} {f : Fl} (hf : d.f1 = some f) : ((((((refC d q).setIfInBounds 8 (.bool true)).setIfInBounds 9 (.string (S f.text))).setIfInBounds 10 (.int .i64 (f.sync : Int))).setIfInBounds 5 (.bool false)).setIfInBounds 6 (.string ⟨#[]⟩)).setIfInBounds 7 (.int .i64 0) = refC ((d.put 1 none).put 2 (some f)) q := by
 simp [refC,Dk.put,txtO,synO,hf]
 rfl
theorem RefAt.renamed {W : World} {G : Nat -> Prop} {b : Nat} {d : Dk} {q : RfP} {f : Fl} (h : RefAt W G b d q) (hf : d.f1 = some f) :
  RefAt ((((((W.setCell ⟨b,8,none⟩ (.bool true)).setCell ⟨b,9,none⟩ (.string (S f.text))).setCell ⟨b,10,none⟩ (.int .i64 (f.sync : Int))).setCell ⟨b,5,none⟩ (.bool false)).setCell ⟨b,6,none⟩ (.string ⟨#[]⟩)).setCell ⟨b,7,none⟩ (.int .i64 0)) G b ((d.put 1 none).put 2 (some f)) q := by
 obtain ⟨p1,p2,p3,p4,p5⟩ := put_same d 1 none
 obtain ⟨r1,r2,r3,r4,r5⟩ := put_same (d.put 1 none) 2 (some f)
 have hb := (((((h.box.setj 8 (.bool true)).setj 9 (.string (S f.text))).setj 10 (.int .i64 (f.sync : Int))).setj 5 (.bool false)).setj 6 (.string ⟨#[]⟩)).setj 7 (.int .i64 0)
 rw [refC_rename hf] at hb
 refine ⟨hb,?_,h.ne,by rw [r3,p3]; exact h.left,h.keep,by rw [r4,p4]; exact h.blk,h.gb,h.gv⟩
 rw [r5,p5]
 exact own_box (cs := refC d q) (t := 0) (own_box (cs := refC d q) (t := 0) (own_box (cs := refC d q) (t := 0) (own_box (cs := refC d q) (t := 0) (own_box (cs := refC d q) (t := 0) (own_box (cs := refC d q) (t := 0) h.row h.ne _ _) h.ne _ _) h.ne _ _) h.ne _ _) h.ne _ _) h.ne _ _
theorem grown_six (w : World) (b a1 a2 a3 a4 a5 a6 : Nat) (v1 v2 v3 v4 v5 v6 : Value) : w.grownBy ((((((w.setCell ⟨b,a1,none⟩ v1).setCell ⟨b,a2,none⟩ v2).setCell ⟨b,a3,none⟩ v3).setCell ⟨b,a4,none⟩ v4).setCell ⟨b,a5,none⟩ v5).setCell ⟨b,a6,none⟩ v6) (some b) :=
 grown_trans (grown_trans (grown_trans (grown_trans (grown_trans (grown_setB _ _ _ _) (grown_setB _ _ _ _)) (grown_setB _ _ _ _)) (grown_setB _ _ _ _)) (grown_setB _ _ _ _)) (grown_setB _ _ _ _)
theorem rename_take {d : Dk} {f : Fl} (hf : d.f1 = some f) : d.take (stRename 1 2) = (0,(d.put 1 none).put 2 (some f)) := by
 have h : d.file (stRename 1 2).i = some f := hf
 unfold Dk.take
 rw [if_neg (by simp [stRename]),h]
 rfl
theorem rbuild_any (G : Nat -> Prop) (b : Nat) (d : Dk) (q : RfP) (w : World) (hR : RefAt w G b d q) (hok : DkOk d) :
  Calls Tryz.prog 121 #[.pointer (some ⟨b,0,none⟩)] w fun e w' => e = .returned (.int .i64 d.build.1) /\ RDone G b w d.build.2 w' := by
 have c1 : w.cell? ⟨b,1,none⟩ = some (.bool d.down) := hR.box.cell (j := 1) rfl
 have c2 : w.cell? ⟨b,2,none⟩ = some (.bool d.f0.isSome) := hR.box.cell (j := 2) rfl
 have c3 : w.cell? ⟨b,3,none⟩ = some (.string (S (txtO d.f0))) := hR.box.cell (j := 3) rfl
 have HS0 : Hid (RDone G b w d w) := RDone.refl hR
 have hgb := hR.gb
 cases hd : d.down with
 | true =>
  have HE : Hid (d.build = (7,d)) := by show _ = _; unfold Dk.build; rw [if_pos hd]
  rw [hd] at c1
  clear hR hok
  go_enter Tryz.func121,Tryz.ntmps121
  go_wp2
  go_ret
  exact ⟨by rw [HE.out]; rfl,by rw [HE.out]; exact HS0.out⟩
 | false =>
  rw [hd] at c1
  cases h0 : d.f0 with
  | none =>
   have HE : Hid (d.build = (2,d)) := by show _ = _; unfold Dk.build; rw [if_neg (by simp [hd]),h0]
   rw [h0] at c2
   have c2' : w.cell? ⟨b,2,none⟩ = some (.bool false) := c2
   clear hR hok c2
   go_enter Tryz.func121,Tryz.ntmps121
   go_wp2
   go_ret
   exact ⟨by rw [HE.out]; rfl,by rw [HE.out]; exact HS0.out⟩
  | some f =>
   rw [h0] at c2 c3
   have c2' : w.cell? ⟨b,2,none⟩ = some (.bool true) := c2
   have c3' : w.cell? ⟨b,3,none⟩ = some (.string (S f.text)) := c3
   have hfl : f.text.length <= 100000 := by have := txt_le hok 0; rw [file_0,h0] at this; exact this
   have HIX : Calls Tryz.prog 115 #[.string (S f.text)] w fun e w' => e = .returned (indexV (indexS f.text)) /\ Below w.heap.size w w' := refIndex_any (S f.text) w (by rw [S_size]; omega)
   cases hix : indexS f.text with
   | none =>
    have HE : Hid (d.build = (3,d)) := by show _ = _; unfold Dk.build; rw [if_neg (by simp [hd]),h0]; simp only; rw [hix]
    rw [hix] at HIX
    unfold indexV at HIX
    dsimp only at HIX
    have HSB : Hid (∀ w1 : World,Below w.heap.size w w1 -> RDone G b w d w1) := fun w1 hb => RDone.of_below hR hb
    clear hR hok c2 c3 HS0 hix
    go_enter Tryz.func121,Tryz.ntmps121
    go_wp2_with (first | (go_at_call 115; refine HIX.mono ?_; rintro e w1 ⟨rfl,hb⟩; have HB : Hid (Below w.heap.size w w1) := hb; clear hb))
    go_ret
    exact ⟨by rw [HE.out]; rfl,by rw [HE.out]; exact HSB.out _ HB.out⟩
   | some ix =>
    have hl := indexS_short hix
    have HE0 : d.build = d.steps ([stMake 1,stAppend 1 ix,stSync 1] ++ [stRename 1 2]) := by unfold Dk.build; rw [if_neg (by simp [hd]),h0]; simp only; rw [hix]; rfl
    rw [steps_cat] at HE0
    rw [hix] at HIX
    unfold indexV at HIX
    dsimp only at HIX
    have HMK : Hid (∀ w1 : World,Below w.heap.size w w1 -> Calls Tryz.prog 172 #[.pointer (some ⟨b,0,none⟩),.int .i64 1,.string (S ix)] w1 fun e w' => e = .returned (.int .i64 (d.steps [stMake 1,stAppend 1 ix,stSync 1]).1) /\ RDone G b w (d.steps [stMake 1,stAppend 1 ix,stSync 1]).2 w') := fun w1 hb =>
     (makes_any G b d q 1 ix w1 (hR.below hb) hok (by omega) (by omega)).mono fun e w' ⟨a1,a2⟩ => ⟨a1,RDone.later hb a2⟩
    have hfile := made_file (d := d) (i := 1) (t := ix) (by omega)
    have hok3 : DkOk (d.steps [stMake 1,stAppend 1 ix,stSync 1]).2 := hok.steps _ (by
     intro s hs
     simp at hs
     rcases hs with rfl | rfl | rfl
     ·exact fine_make _
     ·exact fine_append _ _
     ·exact fine_sync _)
    generalize d.steps [stMake 1,stAppend 1 ix,stSync 1] = r at *
    obtain ⟨re,rd⟩ := r
    simp only at HE0 HMK hfile hok3
    by_cases h1 : re = 0
    ·subst h1
     rw [if_pos rfl,steps_one1] at HE0
     have hf1 := hfile rfl
     have HST : Hid (∀ w1 : World,RDone G b w rd w1 -> Calls Tryz.prog 176 #[.pointer (some ⟨b,0,none⟩)] w1 fun e w' => e = .returned (.bool rd.count.1) /\ RDone G b w rd.count.2 w') := fun w1 h => by
      have h' := h
      obtain ⟨⟨q1,a1⟩,a2⟩ := h'
      exact (rstep_any _ b rd q1 w1 a1 hok3).mono fun e w' ⟨e1,e2⟩ => ⟨e1,h.then e2⟩
     obtain ⟨bb,d',hct⟩ : ∃ b d',rd.count = (b,d') := ⟨_,_,rfl⟩
     rw [hct] at HST
     cases bb with
     | false =>
      rw [one_no hct] at HE0
      have HE : Hid (d.build = (8,d')) := HE0
      clear hR hok c2 c3 HS0 hix HE0 hct hfile hok3 hf1
      go_enter Tryz.func121,Tryz.ntmps121
      go_wp2_with (first | (go_at_call 115; refine HIX.mono ?_; rintro e w1 ⟨rfl,hb⟩; have HB : Hid (Below w.heap.size w w1) := hb; clear hb) | (go_at_call 172; refine (HMK.out w1 HB.out).mono ?_; rintro e w2 ⟨rfl,hd2⟩; have HD2 : Hid (RDone G b w rd w2) := hd2; clear hd2) | (go_at_call 176; refine (HST.out w2 HD2.out).mono ?_; rintro e w3 ⟨rfl,hd3⟩; have HD3 : Hid (RDone G b w d' w3) := hd3; clear hd3))
      go_ret
      exact ⟨by rw [HE.out]; rfl,by rw [HE.out]; exact HD3.out⟩
     | true =>
      rw [one_yes hct] at HE0
      obtain ⟨f1,hf1'⟩ : ∃ f,d'.f1 = some f := by
       have h5 := count_file hct 1
       rw [<- h5] at hf1
       exact Option.isSome_iff_exists.1 hf1
      rw [rename_take hf1'] at HE0
      have HE : Hid (d.build = (0,(d'.put 1 none).put 2 (some f1))) := HE0
      have HCL : Hid (∀ w3 : World,RDone G b w d' w3 -> ∃ q3,(w3.cell? ⟨b,5,none⟩ = some (.bool true) /\ w3.cell? ⟨b,6,none⟩ = some (.string (S f1.text)) /\ w3.cell? ⟨b,7,none⟩ = some (.int .i64 (f1.sync : Int))) /\ (∃ u v x,w3.cell? ⟨b,8,none⟩ = some (.bool u) /\ w3.cell? ⟨b,9,none⟩ = some (.string v) /\ w3.cell? ⟨b,10,none⟩ = some (.int .i64 x)) /\ (∀ j,w3.frozen? ⟨b,j,none⟩ = false) /\ RefAt w3 (Fx G w w3) b d' q3) := fun w3 h => by
       obtain ⟨⟨q3,a1⟩,a2⟩ := h
       have e5 : w3.cell? ⟨b,5,none⟩ = some (.bool d'.f1.isSome) := a1.box.cell (j := 5) rfl
       have e6 : w3.cell? ⟨b,6,none⟩ = some (.string (S (txtO d'.f1))) := a1.box.cell (j := 6) rfl
       have e7 : w3.cell? ⟨b,7,none⟩ = some (.int .i64 (synO d'.f1 : Int)) := a1.box.cell (j := 7) rfl
       rw [hf1'] at e5 e6 e7
       exact ⟨q3,⟨e5,e6,e7⟩,⟨_,_,_,a1.box.cell (j := 8) rfl,a1.box.cell (j := 9) rfl,a1.box.cell (j := 10) rfl⟩,fun j => a1.box.frozen j,a1⟩
      have HRN : Hid (∀ (w3 : World) (q3 : RfP),RDone G b w d' w3 -> RefAt w3 (Fx G w w3) b d' q3 -> RDone G b w ((d'.put 1 none).put 2 (some f1)) ((((((w3.setCell ⟨b,8,none⟩ (.bool true)).setCell ⟨b,9,none⟩ (.string (S f1.text))).setCell ⟨b,10,none⟩ (.int .i64 (f1.sync : Int))).setCell ⟨b,5,none⟩ (.bool false)).setCell ⟨b,6,none⟩ (.string ⟨#[]⟩)).setCell ⟨b,7,none⟩ (.int .i64 0))) := fun w3 q3 h h2 =>
       h.at (h2.renamed hf1') (grown_six _ _ _ _ _ _ _ _ _ _ _ _ _ _) hgb (by simp)
      clear hR hok c2 c3 HS0 hix HE0 hct hfile hok3 hf1 hf1'
      generalize f1.text = ft at *
      generalize f1.sync = fs at *
      go_enter Tryz.func121,Tryz.ntmps121
      go_wp2_with (first | (go_at_call 115; refine HIX.mono ?_; rintro e w1 ⟨rfl,hb⟩; have HB : Hid (Below w.heap.size w w1) := hb; clear hb) | (go_at_call 172; refine (HMK.out w1 HB.out).mono ?_; rintro e w2 ⟨rfl,hd2⟩; have HD2 : Hid (RDone G b w rd w2) := hd2; clear hd2) | (go_at_call 176; refine (HST.out w2 HD2.out).mono ?_; rintro e w3 ⟨rfl,hd3⟩; obtain ⟨q3,⟨k5,k6,k7⟩,⟨u8,u9,u10,k8,k9,k10⟩,kf,hq3⟩ := HCL.out w3 hd3; have f5 := kf 5; have f6 := kf 6; have f7 := kf 7; have f8 := kf 8; have f9 := kf 9; have f10 := kf 10; have HD3 := HRN.out w3 q3 hd3 hq3; clear hd3 hq3 kf))
      go_region
      all_goals
       go_wp2
       go_ret
       exact ⟨by rw [HE.out]; rfl,by rw [HE.out]; exact HD3.below (Below.refl _ _).drew⟩
    ·rw [if_neg h1] at HE0
     have HE : Hid (d.build = (re,rd)) := HE0
     clear hR hok c2 c3 HS0 hix HE0 hfile hok3
     go_enter Tryz.func121,Tryz.ntmps121
     go_wp2_with (first | (go_at_call 115; refine HIX.mono ?_; rintro e w1 ⟨rfl,hb⟩; have HB : Hid (Below w.heap.size w w1) := hb; clear hb) | (go_at_call 172; refine (HMK.out w1 HB.out).mono ?_; rintro e w2 ⟨rfl,hd2⟩; have HD2 : Hid (RDone G b w rd w2) := hd2; clear hd2))
     go_ret
     exact ⟨by rw [HE.out]; rfl,by rw [HE.out]; exact HD2.out⟩
theorem rboth_any (G : Nat -> Prop) (b : Nat) (d : Dk) (q : RfP) (w : World) (hR : RefAt w G b d q) :
  Calls Tryz.prog 200 #[.pointer (some ⟨b,0,none⟩)] w fun e w' => e = .returned (.int .i64 d.readS.2.2) /\ w' = w := by
 have c1 : w.cell? ⟨b,1,none⟩ = some (.bool d.down) := hR.box.cell (j := 1) rfl
 have c2 : w.cell? ⟨b,2,none⟩ = some (.bool d.f0.isSome) := hR.box.cell (j := 2) rfl
 have c8 : w.cell? ⟨b,8,none⟩ = some (.bool d.f2.isSome) := hR.box.cell (j := 8) rfl
 unfold Dk.readS Dk.both
 cases hd : d.down with
 | true =>
  rw [hd] at c1
  rw [if_pos rfl]
  clear hR
  go_enter Tryz.func200,Tryz.ntmps200
  go_wp2
  go_ret
  exact ⟨rfl,rfl⟩
 | false =>
  rw [hd] at c1
  rw [if_neg (by simp)]
  clear hR
  cases h0 : d.f0 with
  | none =>
   rw [h0] at c2
   have c2' : w.cell? ⟨b,2,none⟩ = some (.bool false) := c2
   clear c2
   go_enter Tryz.func200,Tryz.ntmps200
   go_wp2
   go_ret
   exact ⟨rfl,rfl⟩
  | some f =>
   rw [h0] at c2
   have c2' : w.cell? ⟨b,2,none⟩ = some (.bool true) := c2
   clear c2
   cases h2 : d.f2 with
   | none =>
    rw [h2] at c8
    have c8' : w.cell? ⟨b,8,none⟩ = some (.bool false) := c8
    clear c8
    go_enter Tryz.func200,Tryz.ntmps200
    go_wp2
    go_ret
    exact ⟨rfl,rfl⟩
   | some g =>
    rw [h2] at c8
    have c8' : w.cell? ⟨b,8,none⟩ = some (.bool true) := c8
    clear c8
    go_enter Tryz.func200,Tryz.ntmps200
    go_wp2
    go_ret
    exact ⟨rfl,rfl⟩
theorem get_readS (d : Dk) (k : List UInt8) : d.get k = if d.readS.2.2 = 0 then ((lookS d.readS.1 d.readS.2.1 k).val,(lookS d.readS.1 d.readS.2.1 k).err) else ([],d.readS.2.2) := by
 unfold Dk.get Dk.readS
 split
 ·rfl
 ·split
  ·rename_i h; rw [h]; rfl
  ·rename_i h; rw [h]; rfl
theorem rget_any (G : Nat -> Prop) (b : Nat) (d : Dk) (q : RfP) (s : ByteArray) (w : World) (hR : RefAt w G b d q) (hok : DkOk d) (hs : s.size <= 140737488351232) :
  Calls Tryz.prog 179 #[.pointer (some ⟨b,0,none⟩),.string s] w fun e w' => e = .returned (.tuple #[.string (S (d.get s.data.toList).1),.int .i64 (d.get s.data.toList).2]) /\ Below w.heap.size w w' := by
 have HBO := rboth_any G b d q w hR
 have HG := get_readS d s.data.toList
 by_cases h0 : d.readS.2.2 = 0
 ·rw [if_pos h0] at HG
  rw [h0] at HBO
  have hdn : d.down = false := by
   cases hd : d.down with
   | false => rfl
   | true => unfold Dk.readS at h0; rw [if_pos hd] at h0; cases h0
  obtain ⟨f,g,e0,e2⟩ : ∃ f g,d.f0 = some f /\ d.f2 = some g := by
   unfold Dk.readS Dk.both at h0
   rw [if_neg (by simp [hdn])] at h0
   split at h0
   ·cases h0
   ·rename_i h
    split at h
    ·rename_i f g h1 h2; exact ⟨f,g,h1,h2⟩
    ·cases h
  have hr : d.readS = (f.text,g.text,0) := by unfold Dk.readS Dk.both; rw [if_neg (by simp [hdn]),e0,e2]
  rw [hr] at HG
  have z1 : f.text.length <= 100000 := by have := txt_le hok 0; rw [file_0,e0] at this; exact this
  have z2 : g.text.length <= 100000 := by have := txt_le hok 2; rw [file_2,e2] at this; exact this
  have c3 : w.cell? ⟨b,3,none⟩ = some (.string (S (txtO d.f0))) := hR.box.cell (j := 3) rfl
  have c9 : w.cell? ⟨b,9,none⟩ = some (.string (S (txtO d.f2))) := hR.box.cell (j := 9) rfl
  rw [e0] at c3
  rw [e2] at c9
  have c3' : w.cell? ⟨b,3,none⟩ = some (.string (S f.text)) := c3
  have c9' : w.cell? ⟨b,9,none⟩ = some (.string (S g.text)) := c9
  have HLK : Hid (∀ w1 : World,Calls Tryz.prog 116 #[.string (S f.text),.string (S g.text),.string s] w1 fun e w' => e = .returned (ansV (lookS f.text g.text s.data.toList)) /\ Below w1.heap.size w1 w') := fun w1 => refLook_any (S f.text) (S g.text) s w1 (by rw [S_size]; omega) (by rw [S_size]; omega) hs
  have HV : Hid (d.get s.data.toList = ((lookS f.text g.text s.data.toList).val,(lookS f.text g.text s.data.toList).err)) := HG
  have hlt := hR.box.lt
  clear HG hR hok h0 hr c3 c9 z1 z2
  generalize lookS f.text g.text s.data.toList = A at *
  generalize f.text = ft at *
  generalize g.text = gt at *
  obtain ⟨av,an,ae⟩ := A
  unfold ansV at HLK
  dsimp only at *
  have HKP : Hid (∀ w1 : World,Below w.heap.size w w1 -> w1.cell? ⟨b,3,none⟩ = some (.string (S ft)) /\ w1.cell? ⟨b,9,none⟩ = some (.string (S gt))) := fun w1 hb => ⟨(hb.cell (p := ⟨b,3,none⟩) hlt).trans c3',(hb.cell (p := ⟨b,9,none⟩) hlt).trans c9'⟩
  go_enter Tryz.func179,Tryz.ntmps179
  go_wp2_with (first | (go_at_call 200; refine HBO.mono ?_; rintro e w ⟨rfl,rfl⟩))
  go_region_held3 (fun w' => w'.cell? ⟨b,3,none⟩ = some (.string (S ft)) /\ w'.cell? ⟨b,9,none⟩ = some (.string (S gt))) (first | (exact ⟨c3',c9'⟩) | (assumption)) (first | (go_at_call 116; refine (HLK.out _).mono ?_; rintro e w1 ⟨rfl,hb1⟩; have hb1' : Below w.heap.size w w1 := ⟨hb1.os,hb1.tape,hb1.output,hb1.size,hb1.block⟩; have hS1 := HKP.out w1 hb1'; have HB1 : Hid (Below w.heap.size w w1) := hb1'; clear hb1 hb1'))
  all_goals
   clear hS1
   go_wp2
   go_ret2
   exact ⟨by rw [HV.out]; rfl,HB1.out⟩
 ·rw [if_neg h0] at HG
  have HV : Hid (d.get s.data.toList = ([],d.readS.2.2)) := HG
  clear HG hR hok
  generalize d.readS.2.2 = code at *
  go_enter Tryz.func179,Tryz.ntmps179
  go_wp2_with (first | (go_at_call 200; refine HBO.mono ?_; rintro e w ⟨rfl,rfl⟩))
  go_ret2
  exact ⟨by rw [HV.out]; rfl,Below.refl _ _⟩
def said0 : Value := .agg #[.int .i64 0,.int .i64 0,.int .i64 0,.map none,.map none]
def saidV (log : List UInt8) (bi bp : Nat) : Value := .agg #[.int .i64 (hdBlk log),.int .i64 (hdSeed log),.int .i64 (hdBits log),.map (some bi),.map (some bp)]
theorem set5_at {W : World} {b : Nat} {v0 v1 v2 v3 v4 : Value} {t : TypeId} (h : Bx W b #[v0,v1,v2,v3,v4] t) (a0 a1 a2 a3 a4 : Value) (o : Obj) : ((((((W.setCell ⟨b,0,none⟩ a0).setCell ⟨b,1,none⟩ a1).setCell ⟨b,2,none⟩ a2).setCell ⟨b,3,none⟩ a3).setCell ⟨b,4,none⟩ a4).alloc o).cell? ⟨b,0,none⟩ = some a0 /\ ((((((W.setCell ⟨b,0,none⟩ a0).setCell ⟨b,1,none⟩ a1).setCell ⟨b,2,none⟩ a2).setCell ⟨b,3,none⟩ a3).setCell ⟨b,4,none⟩ a4).alloc o).cell? ⟨b,1,none⟩ = some a1 /\ ((((((W.setCell ⟨b,0,none⟩ a0).setCell ⟨b,1,none⟩ a1).setCell ⟨b,2,none⟩ a2).setCell ⟨b,3,none⟩ a3).setCell ⟨b,4,none⟩ a4).alloc o).cell? ⟨b,2,none⟩ = some a2 /\ ((((((W.setCell ⟨b,0,none⟩ a0).setCell ⟨b,1,none⟩ a1).setCell ⟨b,2,none⟩ a2).setCell ⟨b,3,none⟩ a3).setCell ⟨b,4,none⟩ a4).alloc o).cell? ⟨b,3,none⟩ = some a3 /\ ((((((W.setCell ⟨b,0,none⟩ a0).setCell ⟨b,1,none⟩ a1).setCell ⟨b,2,none⟩ a2).setCell ⟨b,3,none⟩ a3).setCell ⟨b,4,none⟩ a4).alloc o).cell? ⟨b,4,none⟩ = some a4 := by
 have y := (((((h.setj 0 a0).setj 1 a1).setj 2 a2).setj 3 a3).setj 4 a4).alloc o
 exact ⟨y.cell (j := 0) rfl,y.cell (j := 1) rfl,y.cell (j := 2) rfl,y.cell (j := 3) rfl,y.cell (j := 4) rfl⟩
theorem set5_at0 {W : World} {b : Nat} {v0 v1 v2 v3 v4 : Value} {t : TypeId} (h : Bx W b #[v0,v1,v2,v3,v4] t) (a0 a1 a2 a3 a4 : Value) : (((((W.setCell ⟨b,0,none⟩ a0).setCell ⟨b,1,none⟩ a1).setCell ⟨b,2,none⟩ a2).setCell ⟨b,3,none⟩ a3).setCell ⟨b,4,none⟩ a4).cell? ⟨b,0,none⟩ = some a0 /\ (((((W.setCell ⟨b,0,none⟩ a0).setCell ⟨b,1,none⟩ a1).setCell ⟨b,2,none⟩ a2).setCell ⟨b,3,none⟩ a3).setCell ⟨b,4,none⟩ a4).cell? ⟨b,1,none⟩ = some a1 /\ (((((W.setCell ⟨b,0,none⟩ a0).setCell ⟨b,1,none⟩ a1).setCell ⟨b,2,none⟩ a2).setCell ⟨b,3,none⟩ a3).setCell ⟨b,4,none⟩ a4).cell? ⟨b,2,none⟩ = some a2 /\ (((((W.setCell ⟨b,0,none⟩ a0).setCell ⟨b,1,none⟩ a1).setCell ⟨b,2,none⟩ a2).setCell ⟨b,3,none⟩ a3).setCell ⟨b,4,none⟩ a4).cell? ⟨b,3,none⟩ = some a3 /\ (((((W.setCell ⟨b,0,none⟩ a0).setCell ⟨b,1,none⟩ a1).setCell ⟨b,2,none⟩ a2).setCell ⟨b,3,none⟩ a3).setCell ⟨b,4,none⟩ a4).cell? ⟨b,4,none⟩ = some a4 := by
 have y := (((((h.setj 0 a0).setj 1 a1).setj 2 a2).setj 3 a3).setj 4 a4)
 exact ⟨y.cell (j := 0) rfl,y.cell (j := 1) rfl,y.cell (j := 2) rfl,y.cell (j := 3) rfl,y.cell (j := 4) rfl⟩
theorem below_set5b {w W : World} {b n : Nat} (h : Below n w W) (hb : n <= b) (a0 a1 a2 a3 a4 : Value) : Below n w (((((W.setCell ⟨b,0,none⟩ a0).setCell ⟨b,1,none⟩ a1).setCell ⟨b,2,none⟩ a2).setCell ⟨b,3,none⟩ a3).setCell ⟨b,4,none⟩ a4) :=
 ((((h.setCell hb _).setCell hb _).setCell hb _).setCell hb _).setCell hb _
theorem Maps2.chg {W W' : World} {F : Nat -> Prop} {bi bp n : Nat} {L : List Sd} (h : Maps2 W bi bp n L) (hc : Chg F W W') (h1 : ¬ F bi) (h2 : ¬ F bp) : Maps2 W' bi bp n L := by
 obtain ⟨DI,DP,⟨a,b,c⟩,d,e⟩ := h
 exact ⟨DI,DP,⟨ownMap_chg a hc h1,b,c⟩,ownMap_chg d hc h2,e⟩
theorem map_not_box {W : World} {k : TypeId} {R : Value -> Option (DataW Unit × List MemPlace)} {b n g : Nat} {D : DataW Unit} {cs : Array Value} {t : TypeId} (h : W.ownsMap Tryz.prog k R b n D) (hx : Bx W g cs t) : b ≠ g := by
 rintro rfl
 obtain ⟨es,ck,h1,r⟩ := h
 rw [show W.heap[b]? = _ from hx] at h1
 cases h1
theorem Maps2.set5 {W : World} {bi bp n b : Nat} {L : List Sd} {v0 v1 v2 v3 v4 : Value} {t : TypeId} (h : Maps2 W bi bp n L) (hx : Bx W b #[v0,v1,v2,v3,v4] t) (a0 a1 a2 a3 a4 : Value) : Maps2 (((((W.setCell ⟨b,0,none⟩ a0).setCell ⟨b,1,none⟩ a1).setCell ⟨b,2,none⟩ a2).setCell ⟨b,3,none⟩ a3).setCell ⟨b,4,none⟩ a4) bi bp n L := by
 have h' := h
 obtain ⟨DI,DP,⟨a,_,_⟩,d,_⟩ := h'
 have e1 := map_not_box a hx
 have e2 := map_not_box d hx
 exact h.chg (F := fun k => k = b) ((((((Chg.refl (fun k => k = b) W).set b 0 a0 (.inl rfl)).set b 1 a1 (.inl rfl)).set b 2 a2 (.inl rfl)).set b 3 a3 (.inl rfl)).set b 4 a4 (.inl rfl)) e1 e2
theorem below_set5 {w W : World} {b n : Nat} (h : Below n w W) (hb : n <= b) (hs : n <= W.heap.size) (a0 a1 a2 a3 a4 : Value) (o : Obj) : Below n w ((((((W.setCell ⟨b,0,none⟩ a0).setCell ⟨b,1,none⟩ a1).setCell ⟨b,2,none⟩ a2).setCell ⟨b,3,none⟩ a3).setCell ⟨b,4,none⟩ a4).alloc o) :=
 (((((h.setCell hb _).setCell hb _).setCell hb _).setCell hb _).setCell hb _).alloc (by simpa using hs) _
theorem said_begins (log ix : ByteArray) (w : World) (hlog : log.size <= 100000) (hix : ix.size <= 100000) (hH : HalvesAt w) (hne : beginsE log.data.toList ix.data.toList ≠ 0) :
  Calls Tryz.prog 83 #[.string log,.string ix] w fun e w' => e = .returned (.tuple #[said0,.int .i64 (beginsE log.data.toList ix.data.toList)]) /\ Below w.heap.size w w' := by
 have HO : Hid (∀ w1 : World,Below w.heap.size w w1 -> _) := fun w1 hb => open_any log ix w1 (by omega) (by omega) (hH.below hb hH.1)
 rw [openV_err rfl hne] at HO
 generalize beginsE log.data.toList ix.data.toList = code at *
 clear hH
 go_enter Tryz.func83,Tryz.ntmps83
 go_wp2_with (first | (go_at_call 81; refine (HO.out _ ?_).mono ?_; exact (Below.refl _ _).alloc (Nat.le_refl _) _; rintro e w1 ⟨rfl,hb⟩; have hx := (bx_new w #[.int .i64 0,.int .i64 0,.int .i64 0,.map none,.map none] 100 rfl).below hb (by simp); have HB : Hid (Below w.heap.size w w1) := ((Below.refl _ _).alloc (Nat.le_refl _) _).trans (hb.mono (by simp)); clear hb; have x0 : w1.cell? ⟨w.heap.size,0,none⟩ = some (.int .i64 0) := hx.cell (j := 0) rfl; have x1 : w1.cell? ⟨w.heap.size,1,none⟩ = some (.int .i64 0) := hx.cell (j := 1) rfl; have x2 : w1.cell? ⟨w.heap.size,2,none⟩ = some (.int .i64 0) := hx.cell (j := 2) rfl; have x3 : w1.cell? ⟨w.heap.size,3,none⟩ = some (.map none) := hx.cell (j := 3) rfl; have x4 : w1.cell? ⟨w.heap.size,4,none⟩ = some (.map none) := hx.cell (j := 4) rfl; have f0 := hx.frozen 0; have f1 := hx.frozen 1; have f2 := hx.frozen 2; have f3 := hx.frozen 3; have f4 := hx.frozen 4; have hz : w.heap.size < w1.heap.size := hx.lt; have ne1 : w.heap.size ≠ w1.heap.size := (by omega); have ne2 : w1.heap.size ≠ w.heap.size := (by omega); have HXw1 : Hid (Bx w1 w.heap.size #[.int .i64 0,.int .i64 0,.int .i64 0,.map none,.map none] 100) := hx; clear hx))
 have y := set5_at HXw1.out (.int .i64 0) (.int .i64 0) (.int .i64 0) (.map none) (.map none)
 have y0 := fun o => (y o).1
 have y1 := fun o => (y o).2.1
 have y2 := fun o => (y o).2.2.1
 have y3 := fun o => (y o).2.2.2.1
 have y4 := fun o => (y o).2.2.2.2
 refine bodyPost_ret (v := .tuple #[said0,.int .i64 code]) (by simp [results,Tryz.results83,go_sem,said0,y0,y1,y2,y3,y4]) rfl ⟨rfl,?_⟩
 exact below_set5 HB.out (Nat.le_refl _) (by omega) _ _ _ _ _ _
theorem said_goes (log ix : ByteArray) (w : World) (hlog : log.size <= 100000) (hix : ix.size <= 100000) (hH : HalvesAt w) (hbe : beginsE log.data.toList ix.data.toList = 0) :
  Calls Tryz.prog 83 #[.string log,.string ix] w fun e w' => ((indexS log.data.toList ≠ some ix.data.toList /\ e = .returned (.tuple #[said0,.int .i64 3])) \/ (∃ L bi bp n,saidS log.data.toList = some L /\ indexS log.data.toList = some ix.data.toList /\ e = .returned (.tuple #[saidV log.data.toList bi bp,.int .i64 0]) /\ Maps2 w' bi bp n L)) /\ Below w.heap.size w w' := by
 have hll : log.data.toList.length = log.size := by simp
 have HO : Hid (∀ w1 : World,Below w.heap.size w w1 -> _) := fun w1 hb => open_any log ix w1 (by omega) (by omega) (hH.below hb hH.1)
 have hov : ∃ v : Array Value,openV log ix = .tuple #[.agg v,.int .i64 0] /\ v.size = 10 /\ (∀ u ∈ v.toList,u.oneCell' = true) := by
  unfold openV; rw [if_pos hbe]; exact ⟨_,rfl,rfl,by simp [Value.oneCell']⟩
 have hi := indexS_said log.data.toList
 have HR : Hid (∀ w1 : World,Below w.heap.size w w1 -> Calls Tryz.prog 51 #[.string log] w1 fun e w' => ∃ v,e = .returned v /\ SaidIs w1 w' log.data.toList v /\ Below w1.heap.size w1 w') := fun w1 hb => read_any log w1 (by omega) (hH.below hb hH.1)
 unfold openV at HO
 rw [if_pos hbe] at HO
 unfold viewV at HO
 generalize hdBlk log.data.toList = q1 at HO
 generalize hdSeed log.data.toList = q2 at HO
 generalize hdBits log.data.toList = q3 at HO
 generalize ixLive ix.data.toList = q4 at HO
 generalize ixN ix.data.toList = q5 at HO
 generalize ixFar ix.data.toList = q6 at HO
 generalize ixSize ix.data.toList = q7 at HO
 generalize ixSum ix.data.toList = q8 at HO
 generalize S ((ix.data.toList.drop 20).take (10 * q5)) = q9 at HO
 cases hq : saidS log.data.toList with
 | none =>
  rw [hq] at hi
  have HN : Hid (indexS log.data.toList ≠ some ix.data.toList) := by show _ ≠ _; rw [hi]; simp
  have HR2 : Hid (∀ w1 : World,Below w.heap.size w w1 -> Calls Tryz.prog 51 #[.string log] w1 fun e w' => e = .returned (.tuple #[.agg #[.int .i64 0,.int .i64 0,.int .i64 0,.map none,.map none],.bool false]) /\ Below w1.heap.size w1 w') := fun w1 hb => (HR.out w1 hb).mono fun e w' ⟨v,a1,a2,a3⟩ => by
   unfold SaidIs at a2
   rw [hq] at a2
   simp only at a2
   subst a2
   exact ⟨a1,a3⟩
  clear hH hbe hov hi HR hq
  go_enter Tryz.func83,Tryz.ntmps83
  go_wp2_with (first | (go_at_call 81; refine (HO.out _ ?_).mono ?_; exact (Below.refl _ _).alloc (Nat.le_refl _) _; rintro e w1 ⟨rfl,hb⟩; have hz1 : w.heap.size + 1 <= w1.heap.size := (by have := hb.size; simp at this; omega); have HBA : Hid (Below _ _ w1) := hb; have HB : Hid (Below w.heap.size w w1) := ((Below.refl _ _).alloc (Nat.le_refl _) _).trans (hb.mono (by simp)); clear hb) | (go_at_call 51; refine (HR2.out _ ?_).mono ?_; exact HB.out.alloc (by omega) _; rintro e w2 ⟨rfl,hb2⟩; have hx := ((bx_new w #[.int .i64 0,.int .i64 0,.int .i64 0,.map none,.map none] 100 rfl).below HBA.out (by simp)); have hx := (hx.alloc (.cells #[.string log,.int .i64 q1,.int .i64 q2,.int .i64 q3,.int .i64 q4,.int .i64 q5,.int .i64 q6,.int .i64 q7,.int .i64 q8,.string q9] 141)).below hb2 (by simp; omega); have HB2 : Hid (Below w.heap.size w w2) := (HB.out.alloc (by omega) _).trans (hb2.mono (by simp; omega)); clear hb2; have x0 : w2.cell? ⟨w.heap.size,0,none⟩ = some (.int .i64 0) := hx.cell (j := 0) rfl; have x1 : w2.cell? ⟨w.heap.size,1,none⟩ = some (.int .i64 0) := hx.cell (j := 1) rfl; have x2 : w2.cell? ⟨w.heap.size,2,none⟩ = some (.int .i64 0) := hx.cell (j := 2) rfl; have x3 : w2.cell? ⟨w.heap.size,3,none⟩ = some (.map none) := hx.cell (j := 3) rfl; have x4 : w2.cell? ⟨w.heap.size,4,none⟩ = some (.map none) := hx.cell (j := 4) rfl; have f0 := hx.frozen 0; have f1 := hx.frozen 1; have f2 := hx.frozen 2; have f3 := hx.frozen 3; have f4 := hx.frozen 4; have hz : w.heap.size < w2.heap.size := hx.lt; have ne1 : w.heap.size ≠ w2.heap.size := (by omega); have ne2 : w2.heap.size ≠ w.heap.size := (by omega); have HXw2 : Hid (Bx w2 w.heap.size #[.int .i64 0,.int .i64 0,.int .i64 0,.map none,.map none] 100) := hx; clear hx))
  have y := set5_at HXw2.out (.int .i64 0) (.int .i64 0) (.int .i64 0) (.map none) (.map none)
  have y0 := fun o => (y o).1
  have y1 := fun o => (y o).2.1
  have y2 := fun o => (y o).2.2.1
  have y3 := fun o => (y o).2.2.2.1
  have y4 := fun o => (y o).2.2.2.2
  refine bodyPost_ret (v := .tuple #[said0,.int .i64 3]) (by simp [results,Tryz.results83,go_sem,said0,y0,y1,y2,y3,y4]) rfl ⟨.inl ⟨HN.out,rfl⟩,?_⟩
  exact below_set5 HB2.out (Nat.le_refl _) (by omega) _ _ _ _ _ _
 | some L =>
  rw [hq] at hi
  have hi2 : indexS log.data.toList = some (indexB log.data.toList (hdSeed log.data.toList) (hdBits log.data.toList) L) := hi
  obtain ⟨g1,g2,g3,g4,g5,g6,g7⟩ := said_facts hq
  have HR2 : Hid (∀ w1 : World,Below w.heap.size w w1 -> Calls Tryz.prog 51 #[.string log] w1 fun e w' => ∃ bi bp n,e = .returned (.tuple #[.agg #[.int .i64 (hdBlk log.data.toList : Int),.int .i64 (hdSeed log.data.toList : Int),.int .i64 (hdBits log.data.toList : Int),.map (some bi),.map (some bp)],.bool true]) /\ Maps2 w' bi bp n L /\ Below w1.heap.size w1 w') := fun w1 hb => (HR.out w1 hb).mono fun e w' ⟨v,a1,a2,a3⟩ => by
   unfold SaidIs at a2
   rw [hq] at a2
   obtain ⟨bi,bp,n,b1,b2,b3⟩ := a2
   subst b1
   exact ⟨bi,bp,n,a1,b2,a3⟩
  have HMK : Hid (∀ (wx : World) (bi bp n : Nat),Maps2 wx bi bp n L -> Below w.heap.size w wx -> Calls Tryz.prog 52 #[.string log,.agg #[.int .i64 (hdBlk log.data.toList : Int),.int .i64 (hdSeed log.data.toList : Int),.int .i64 (hdBits log.data.toList : Int),.map (some bi),.map (some bp)]] wx fun e w' => e = .returned (.string (S (indexB log.data.toList (hdSeed log.data.toList) (hdBits log.data.toList) L))) /\ Below wx.heap.size wx w') := fun wx bi bp n h1 h2 => make_any log (hdBlk log.data.toList) (hdSeed log.data.toList) (hdBits log.data.toList) bi bp n L wx h1 g1 g2 g3 g4 g5 (by omega) (hH.below h2 hH.1)
  have HVB : Hid (∀ bi bp : Nat,saidV log.data.toList bi bp = .agg #[.int .i64 (hdBlk log.data.toList : Int),.int .i64 (hdSeed log.data.toList : Int),.int .i64 (hdBits log.data.toList : Int),.map (some bi),.map (some bp)]) := fun _ _ => rfl
  have HQ : Hid (saidS log.data.toList = some L) := hq
  have HI2 : Hid (indexS log.data.toList = some (indexB log.data.toList (hdSeed log.data.toList) (hdBits log.data.toList) L)) := hi2
  clear hH hbe hov hi HR hq g1 g2 g3 g4 g5 g6 g7 hi2
  generalize indexB log.data.toList (hdSeed log.data.toList) (hdBits log.data.toList) L = I at *
  generalize hdBlk log.data.toList = k1 at *
  generalize hdSeed log.data.toList = k2 at *
  generalize hdBits log.data.toList = k3 at *
  by_cases heq : I = ix.data.toList
  ·have hcmp : ((S I).toList == ix.toList) = true := by rw [ByteArray.toList_eq,ByteArray.toList_eq,S_data,heq]; simp
   have HEQ : Hid (indexS log.data.toList = some ix.data.toList) := by show _ = _; rw [HI2.out,heq]
   clear heq
   go_enter Tryz.func83,Tryz.ntmps83
   go_wp2_with (first | (go_at_call 81; refine (HO.out _ ?_).mono ?_; exact (Below.refl _ _).alloc (Nat.le_refl _) _; rintro e w1 ⟨rfl,hb⟩; have hz1 : w.heap.size + 1 <= w1.heap.size := (by have := hb.size; simp at this; omega); have HBA : Hid (Below _ _ w1) := hb; have HB : Hid (Below w.heap.size w w1) := ((Below.refl _ _).alloc (Nat.le_refl _) _).trans (hb.mono (by simp)); clear hb) | (go_at_call 51; refine (HR2.out _ ?_).mono ?_; exact HB.out.alloc (by omega) _; rintro e w2 ⟨bi,bp,n,rfl,hm,hb2⟩; have hx := ((bx_new w #[.int .i64 0,.int .i64 0,.int .i64 0,.map none,.map none] 100 rfl).below HBA.out (by simp)); have hx := (hx.alloc (.cells #[.string log,.int .i64 q1,.int .i64 q2,.int .i64 q3,.int .i64 q4,.int .i64 q5,.int .i64 q6,.int .i64 q7,.int .i64 q8,.string q9] 141)).below hb2 (by simp; omega); have HX2 : Hid (Bx w2 w.heap.size #[.int .i64 0,.int .i64 0,.int .i64 0,.map none,.map none] 100) := hx; have hz2 : w.heap.size < w2.heap.size := hx.lt; have HB2 : Hid (Below w.heap.size w w2) := (HB.out.alloc (by omega) _).trans (hb2.mono (by simp; omega)); have HM : Hid (Maps2 w2 bi bp n L) := hm; clear hb2 hx hm) | (go_at_call 52; refine (HMK.out _ bi bp n ?_ ?_).mono ?_; exact HM.out.alloc _; exact HB2.out.alloc (by omega) _; rintro e w3 ⟨rfl,hb3⟩; have hs := (bx_new w2 #[.int .i64 (k1 : Int),.int .i64 (k2 : Int),.int .i64 (k3 : Int),.map (some bi),.map (some bp)] 100 rfl).below hb3 (by simp); have s0 : w3.cell? ⟨w2.heap.size,0,none⟩ = some (.int .i64 (k1 : Int)) := hs.cell (j := 0) rfl; have s1 : w3.cell? ⟨w2.heap.size,1,none⟩ = some (.int .i64 (k2 : Int)) := hs.cell (j := 1) rfl; have s2 : w3.cell? ⟨w2.heap.size,2,none⟩ = some (.int .i64 (k3 : Int)) := hs.cell (j := 2) rfl; have s3 : w3.cell? ⟨w2.heap.size,3,none⟩ = some (.map (some bi)) := hs.cell (j := 3) rfl; have s4 : w3.cell? ⟨w2.heap.size,4,none⟩ = some (.map (some bp)) := hs.cell (j := 4) rfl; have hx := (HX2.out.alloc (.cells #[.int .i64 (k1 : Int),.int .i64 (k2 : Int),.int .i64 (k3 : Int),.map (some bi),.map (some bp)] 100)).below hb3 (by simp; omega); have HB3 : Hid (Below w.heap.size w w3) := (HB2.out.alloc (by omega) _).trans (hb3.mono (by simp; omega)); have HM3 : Hid (Maps2 w3 bi bp n L) := (HM.out.alloc _).below hb3 (HM.out.alloc _).lt.1 (HM.out.alloc _).lt.2; clear hb3 hs; have x0 : w3.cell? ⟨w.heap.size,0,none⟩ = some (.int .i64 0) := hx.cell (j := 0) rfl; have x1 : w3.cell? ⟨w.heap.size,1,none⟩ = some (.int .i64 0) := hx.cell (j := 1) rfl; have x2 : w3.cell? ⟨w.heap.size,2,none⟩ = some (.int .i64 0) := hx.cell (j := 2) rfl; have x3 : w3.cell? ⟨w.heap.size,3,none⟩ = some (.map none) := hx.cell (j := 3) rfl; have x4 : w3.cell? ⟨w.heap.size,4,none⟩ = some (.map none) := hx.cell (j := 4) rfl; have f0 := hx.frozen 0; have f1 := hx.frozen 1; have f2 := hx.frozen 2; have f3 := hx.frozen 3; have f4 := hx.frozen 4; have hz : w.heap.size < w3.heap.size := hx.lt; have HXw3 : Hid (Bx w3 w.heap.size #[.int .i64 0,.int .i64 0,.int .i64 0,.map none,.map none] 100) := hx; clear hx))
   have y := set5_at0 HXw3.out (.int .i64 (k1 : Int)) (.int .i64 (k2 : Int)) (.int .i64 (k3 : Int)) (.map (some bi)) (.map (some bp))
   obtain ⟨y0,y1,y2,y3,y4⟩ := y
   refine bodyPost_ret (v := .tuple #[saidV log.data.toList bi bp,.int .i64 0]) (by rw [HVB.out]; simp [results,Tryz.results83,go_sem,y0,y1,y2,y3,y4]) rfl ⟨.inr ⟨L,bi,bp,n,rfl,HEQ.out,rfl,?_⟩,?_⟩
   ·exact HM3.out.set5 HXw3.out _ _ _ _ _
   ·exact below_set5b HB3.out (Nat.le_refl _) _ _ _ _ _
  ·have hcmp : ((S I).toList == ix.toList) = false := by
    rw [ByteArray.toList_eq,ByteArray.toList_eq,S_data,beq_eq_false_iff_ne]; exact heq
   have HNE : Hid (indexS log.data.toList ≠ some ix.data.toList) := by show _ ≠ _; rw [HI2.out]; intro e; exact heq (Option.some.inj e)
   clear heq
   go_enter Tryz.func83,Tryz.ntmps83
   go_wp2_with (first | (go_at_call 81; refine (HO.out _ ?_).mono ?_; exact (Below.refl _ _).alloc (Nat.le_refl _) _; rintro e w1 ⟨rfl,hb⟩; have hz1 : w.heap.size + 1 <= w1.heap.size := (by have := hb.size; simp at this; omega); have HBA : Hid (Below _ _ w1) := hb; have HB : Hid (Below w.heap.size w w1) := ((Below.refl _ _).alloc (Nat.le_refl _) _).trans (hb.mono (by simp)); clear hb) | (go_at_call 51; refine (HR2.out _ ?_).mono ?_; exact HB.out.alloc (by omega) _; rintro e w2 ⟨bi,bp,n,rfl,hm,hb2⟩; have hx := ((bx_new w #[.int .i64 0,.int .i64 0,.int .i64 0,.map none,.map none] 100 rfl).below HBA.out (by simp)); have hx := (hx.alloc (.cells #[.string log,.int .i64 q1,.int .i64 q2,.int .i64 q3,.int .i64 q4,.int .i64 q5,.int .i64 q6,.int .i64 q7,.int .i64 q8,.string q9] 141)).below hb2 (by simp; omega); have HX2 : Hid (Bx w2 w.heap.size #[.int .i64 0,.int .i64 0,.int .i64 0,.map none,.map none] 100) := hx; have hz2 : w.heap.size < w2.heap.size := hx.lt; have HB2 : Hid (Below w.heap.size w w2) := (HB.out.alloc (by omega) _).trans (hb2.mono (by simp; omega)); have HM : Hid (Maps2 w2 bi bp n L) := hm; clear hb2 hx hm) | (go_at_call 52; refine (HMK.out _ bi bp n ?_ ?_).mono ?_; exact HM.out.alloc _; exact HB2.out.alloc (by omega) _; rintro e w3 ⟨rfl,hb3⟩; have hs := (bx_new w2 #[.int .i64 (k1 : Int),.int .i64 (k2 : Int),.int .i64 (k3 : Int),.map (some bi),.map (some bp)] 100 rfl).below hb3 (by simp); have s0 : w3.cell? ⟨w2.heap.size,0,none⟩ = some (.int .i64 (k1 : Int)) := hs.cell (j := 0) rfl; have s1 : w3.cell? ⟨w2.heap.size,1,none⟩ = some (.int .i64 (k2 : Int)) := hs.cell (j := 1) rfl; have s2 : w3.cell? ⟨w2.heap.size,2,none⟩ = some (.int .i64 (k3 : Int)) := hs.cell (j := 2) rfl; have s3 : w3.cell? ⟨w2.heap.size,3,none⟩ = some (.map (some bi)) := hs.cell (j := 3) rfl; have s4 : w3.cell? ⟨w2.heap.size,4,none⟩ = some (.map (some bp)) := hs.cell (j := 4) rfl; have hx := (HX2.out.alloc (.cells #[.int .i64 (k1 : Int),.int .i64 (k2 : Int),.int .i64 (k3 : Int),.map (some bi),.map (some bp)] 100)).below hb3 (by simp; omega); have HB3 : Hid (Below w.heap.size w w3) := (HB2.out.alloc (by omega) _).trans (hb3.mono (by simp; omega)); have HM3 : Hid (Maps2 w3 bi bp n L) := (HM.out.alloc _).below hb3 (HM.out.alloc _).lt.1 (HM.out.alloc _).lt.2; clear hb3 hs; have x0 : w3.cell? ⟨w.heap.size,0,none⟩ = some (.int .i64 0) := hx.cell (j := 0) rfl; have x1 : w3.cell? ⟨w.heap.size,1,none⟩ = some (.int .i64 0) := hx.cell (j := 1) rfl; have x2 : w3.cell? ⟨w.heap.size,2,none⟩ = some (.int .i64 0) := hx.cell (j := 2) rfl; have x3 : w3.cell? ⟨w.heap.size,3,none⟩ = some (.map none) := hx.cell (j := 3) rfl; have x4 : w3.cell? ⟨w.heap.size,4,none⟩ = some (.map none) := hx.cell (j := 4) rfl; have f0 := hx.frozen 0; have f1 := hx.frozen 1; have f2 := hx.frozen 2; have f3 := hx.frozen 3; have f4 := hx.frozen 4; have hz : w.heap.size < w3.heap.size := hx.lt; have HXw3 : Hid (Bx w3 w.heap.size #[.int .i64 0,.int .i64 0,.int .i64 0,.map none,.map none] 100) := hx; clear hx))
   have y := set5_at0 HXw3.out (.int .i64 0) (.int .i64 0) (.int .i64 0) (.map none) (.map none)
   obtain ⟨y0,y1,y2,y3,y4⟩ := y
   refine bodyPost_ret (v := .tuple #[said0,.int .i64 3]) (by simp [results,Tryz.results83,go_sem,said0,y0,y1,y2,y3,y4]) rfl ⟨.inl ⟨HNE.out,rfl⟩,?_⟩
   exact below_set5b HB3.out (Nat.le_refl _) _ _ _ _ _
end Go.Proofs.YtdhgebdbiehchaaGreatDoor
