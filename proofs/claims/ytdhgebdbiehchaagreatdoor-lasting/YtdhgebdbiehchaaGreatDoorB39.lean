/- On the way: PGet, RfBuild, PSaid. -/
import Derived.Test.YtdhgebdbiehchaaGreatDoorB34
import Derived.Test.YtdhgebdbiehchaaGreatDoorB37
import Derived.Test.YtdhgebdbiehchaaGreatDoorB38
import Derived.Test.YtdhgebdbiehchaaGreatDoorB28
namespace Go.Proofs.YtdhgebdbiehchaaGreatDoor
open Go.RowKit Go.Maps
set_option linter.unusedSimpArgs false
set_option linter.unusedVariables false
set_option maxRecDepth 100000
set_option maxHeartbeats 3200000
def Dk.readS (d : Dk) : List UInt8 × List UInt8 × Int := if d.down = true then ([],[],7) else match d.both with
 | none => ([],[],2)
 | some (l,i) => (l,i,0)
theorem fileR_up {d : Dk} {i : Nat} {f : Fl} (hd : d.down = false) (hi : i <= 2) (hf : d.file i = some f) : d.fileR (nm i) = (f.text,0) := by unfold Dk.fileR; rw [if_neg (by simp [hd]),nameN_nm hi,hf]
theorem fileR_no {d : Dk} {i : Nat} (hd : d.down = false) (hi : i <= 2) (hf : d.file i = none) : d.fileR (nm i) = ([],2) := by unfold Dk.fileR; rw [if_neg (by simp [hd]),nameN_nm hi,hf]
theorem fileR_dn {d : Dk} {l : List UInt8} (hd : d.down = true) : d.fileR l = ([],7) := by unfold Dk.fileR; rw [if_pos hd]
theorem readS_any (E : Sent) (n : Nat) (G : Nat -> Prop) (bs : Nat) (d : Dk) (q : StP) (w : World) (hE : Env0 n w E) (hS : StoreAt w G bs d q) :
  Calls Tryz.prog 80 #[.pointer (some ⟨bs,0,none⟩)] w fun e w' => ∃ ev,e = .returned (.tuple #[.string (S d.readS.1),.string (S d.readS.2.1),ev]) /\ FaultIs w' E d.readS.2.2 ev /\ Below w.heap.size w w' := by
 have HC : Hid (∀ w1 : World,Below w.heap.size w w1 -> w1.cell? ⟨bs,0,none⟩ = some (.pointer (some ⟨q.bd,0,none⟩))) := fun w1 hb => (hS.box.below hb hS.box.lt).cell (j := 0) rfl
 have c0 := HC.out w (Below.refl _ _)
 have HR0 : Calls Tryz.prog 50 #[.pointer (some ⟨q.bd,0,none⟩),.string ⟨#[108,111,103]⟩] w fun e w' => ∃ ev,e = .returned (.tuple #[.string (S (d.fileR (nm 0)).1),ev]) /\ FaultIs w' E (d.fileR (nm 0)).2 ev /\ Below w.heap.size w w' := read_disk E n q.Fd q.bd d q.p ⟨#[108,111,103]⟩ w hE hS.disk (by decide)
 have HR2 : Hid (∀ w1 : World,Below w.heap.size w w1 -> Calls Tryz.prog 50 #[.pointer (some ⟨q.bd,0,none⟩),.string ⟨#[105,110,100,101,120]⟩] w1 fun e w' => ∃ ev,e = .returned (.tuple #[.string (S (d.fileR (nm 2)).1),ev]) /\ FaultIs w' E (d.fileR (nm 2)).2 ev /\ Below w1.heap.size w1 w') := fun w1 hb => read_disk E n q.Fd q.bd d q.p ⟨#[105,110,100,101,120]⟩ w1 (hE.below (hb.mono hE.le)) (hS.disk.below hb) (by decide)
 cases hd : d.down with
 | true =>
  rw [fileR_dn hd] at HR0
  have HV : Hid (d.readS = ([],[],7)) := by show _ = _; unfold Dk.readS; rw [if_pos hd]
  clear hE hS HR2
  go_enter Tryz.func80,Tryz.ntmps80
  go_wp2_with (first | (go_at_call 50; refine HR0.mono ?_; rintro e w1 ⟨ev,rfl,hf,hb⟩; obtain ⟨b,rfl⟩ := fault_some hf (by decide); have HFA : Hid (FaultIs w1 E 7 (.iface 128 (.pointer (some ⟨b,0,none⟩)))) := hf; have HB : Hid (Below w.heap.size w w1) := hb; clear hf hb))
  go_ret3
  exact ⟨_,by rw [HV.out]; rfl,by rw [HV.out]; exact HFA.out,HB.out⟩
 | false =>
  cases h0 : d.f0 with
  | none =>
   rw [fileR_no (i := 0) hd (by omega) h0] at HR0
   have HV : Hid (d.readS = ([],[],2)) := by show _ = _; unfold Dk.readS Dk.both; rw [if_neg (by simp [hd]),h0]
   clear hE hS HR2
   go_enter Tryz.func80,Tryz.ntmps80
   go_wp2_with (first | (go_at_call 50; refine HR0.mono ?_; rintro e w1 ⟨ev,rfl,hf,hb⟩; obtain ⟨b,rfl⟩ := fault_some hf (by decide); have HFA : Hid (FaultIs w1 E 2 (.iface 128 (.pointer (some ⟨b,0,none⟩)))) := hf; have HB : Hid (Below w.heap.size w w1) := hb; clear hf hb))
   go_ret3
   exact ⟨_,by rw [HV.out]; rfl,by rw [HV.out]; exact HFA.out,HB.out⟩
  | some f =>
   rw [fileR_up (i := 0) hd (by omega) h0] at HR0
   cases h2 : d.f2 with
   | none =>
    rw [fileR_no (i := 2) hd (by omega) h2] at HR2
    have HV : Hid (d.readS = ([],[],2)) := by show _ = _; unfold Dk.readS Dk.both; rw [if_neg (by simp [hd]),h0,h2]
    clear hE hS
    go_enter Tryz.func80,Tryz.ntmps80
    go_wp2_with (first | (go_at_call_of 50 (Value.string ⟨#[108,111,103]⟩); refine HR0.mono ?_; rintro e w1 ⟨ev,rfl,hf,hb⟩; obtain rfl := fault_nil hf; have k0 := HC.out w1 hb; have HB : Hid (Below w.heap.size w w1) := hb; clear hf hb) | (go_at_call_of 50 (Value.string ⟨#[105,110,100,101,120]⟩); refine (HR2.out w1 HB.out).mono ?_; rintro e w2 ⟨ev,rfl,hf,hb⟩; obtain ⟨b,rfl⟩ := fault_some hf (by decide); have HFA : Hid (FaultIs w2 E 2 (.iface 128 (.pointer (some ⟨b,0,none⟩)))) := hf; have HB2 : Hid (Below w.heap.size w w2) := HB.out.trans (hb.mono HB.out.size); clear hf hb))
    go_ret3
    exact ⟨_,by rw [HV.out]; rfl,by rw [HV.out]; exact HFA.out,HB2.out⟩
   | some g =>
    rw [fileR_up (i := 2) hd (by omega) h2] at HR2
    have HV : Hid (d.readS = (f.text,g.text,0)) := by show _ = _; unfold Dk.readS Dk.both; rw [if_neg (by simp [hd]),h0,h2]
    clear hE hS
    go_enter Tryz.func80,Tryz.ntmps80
    go_wp2_with (first | (go_at_call_of 50 (Value.string ⟨#[108,111,103]⟩); refine HR0.mono ?_; rintro e w1 ⟨ev,rfl,hf,hb⟩; obtain rfl := fault_nil hf; have k0 := HC.out w1 hb; have HB : Hid (Below w.heap.size w w1) := hb; clear hf hb) | (go_at_call_of 50 (Value.string ⟨#[105,110,100,101,120]⟩); refine (HR2.out w1 HB.out).mono ?_; rintro e w2 ⟨ev,rfl,hf,hb⟩; obtain rfl := fault_nil hf; have HFA : Hid (FaultIs w2 E 0 .nilIface) := hf; have HB2 : Hid (Below w.heap.size w w2) := HB.out.trans (hb.mono HB.out.size); clear hf hb))
    go_ret3
    exact ⟨_,by rw [HV.out]; rfl,by rw [HV.out]; exact HFA.out,HB2.out⟩
theorem both_le {d : Dk} {l i : List UInt8} (hok : DkOk d) (h : d.both = some (l,i)) : l.length <= 100000 /\ i.length <= 100000 := by
 unfold Dk.both at h
 have h1 := hok.used
 have h2 := hok.room
 unfold Dk.used at h1
 split at h
 ·rename_i f g e1 e2
  cases h
  rw [e1,e2] at h1
  simp only [lenF] at h1
  omega
 ·cases h
theorem get_any (E : Sent) (n : Nat) (G : Nat -> Prop) (bs : Nat) (d : Dk) (q : StP) (s : ByteArray) (w : World) (hE : Env0 n w E) (hS : StoreAt w G bs d q) (hok : DkOk d) (hs : s.size <= 140737488351232) :
  Calls Tryz.prog 46 #[.pointer (some ⟨bs,0,none⟩),.string s] w fun e w' => e = .returned (.tuple #[.string (S (d.get s.data.toList).1),.int .i64 (d.get s.data.toList).2]) /\ Below w.heap.size w w' := by
 have HRD := readS_any E n G bs d q w hE hS
 have HEV : Hid (∀ w1 : World,Below w.heap.size w w1 -> Env w1 E) := fun w1 hb => hE.env.below hb
 cases hd : d.down with
 | true =>
  have hr : d.readS = ([],[],7) := by unfold Dk.readS; rw [if_pos hd]
  have HV : Hid (d.get s.data.toList = ([],7)) := by show _ = _; unfold Dk.get; rw [if_pos hd]
  rw [hr] at HRD
  clear hE hS hr hok
  go_enter Tryz.func46,Tryz.ntmps46
  go_wp2_with (first | (go_at_call 80; refine HRD.mono ?_; rintro e w1 ⟨ev,rfl,hf,hb⟩; obtain ⟨b,rfl⟩ := fault_some hf (by decide); have HFA : Hid (FaultIs w1 E 7 (.iface 128 (.pointer (some ⟨b,0,none⟩)))) := hf; have HB : Hid (Below w.heap.size w w1) := hb; clear hf hb) | (go_at_call 41; refine (answer_any E 7 _ w1 (HEV.out w1 HB.out) HFA.out (by decide)).mono ?_; rintro e w2 ⟨rfl,hb2⟩; have HB2 : Hid (Below w.heap.size w w2) := HB.out.trans (hb2.mono HB.out.size); clear hb2))
  go_ret2
  exact ⟨by rw [HV.out]; rfl,HB2.out⟩
 | false =>
  cases hb : d.both with
  | none =>
   have hr : d.readS = ([],[],2) := by unfold Dk.readS; rw [if_neg (by simp [hd]),hb]
   have HV : Hid (d.get s.data.toList = ([],2)) := by show _ = _; unfold Dk.get; rw [if_neg (by simp [hd]),hb]
   rw [hr] at HRD
   clear hE hS hr hok hb
   go_enter Tryz.func46,Tryz.ntmps46
   go_wp2_with (first | (go_at_call 80; refine HRD.mono ?_; rintro e w1 ⟨ev,rfl,hf,hb⟩; obtain ⟨b,rfl⟩ := fault_some hf (by decide); have HFA : Hid (FaultIs w1 E 2 (.iface 128 (.pointer (some ⟨b,0,none⟩)))) := hf; have HB : Hid (Below w.heap.size w w1) := hb; clear hf hb) | (go_at_call 41; refine (answer_any E 2 _ w1 (HEV.out w1 HB.out) HFA.out (by decide)).mono ?_; rintro e w2 ⟨rfl,hb2⟩; have HB2 : Hid (Below w.heap.size w w2) := HB.out.trans (hb2.mono HB.out.size); clear hb2))
   go_ret2
   exact ⟨by rw [HV.out]; rfl,HB2.out⟩
  | some p =>
   obtain ⟨l,i⟩ := p
   obtain ⟨z1,z2⟩ := both_le hok hb
   have hr : d.readS = (l,i,0) := by unfold Dk.readS; rw [if_neg (by simp [hd]),hb]
   have HV : Hid (d.get s.data.toList = ((lookS l i s.data.toList).val,(lookS l i s.data.toList).err)) := by show _ = _; unfold Dk.get; rw [if_neg (by simp [hd]),hb]
   rw [hr] at HRD
   have HLK : Hid (∀ w1 : World,Below w.heap.size w w1 -> Calls Tryz.prog 47 #[.string (S l),.string (S i),.string s] w1 fun e w' => e = .returned (ansV (lookS l i s.data.toList)) /\ Below w1.heap.size w1 w') := fun w1 hb1 => progLook_any (S l) (S i) s w1 (by rw [S_size]; omega) (by rw [S_size]; omega) hs (HEV.out w1 hb1).halves
   clear hE hS hr hok hb z1 z2
   generalize lookS l i s.data.toList = A at *
   obtain ⟨av,an,ae⟩ := A
   unfold ansV at HLK
   dsimp only at *
   go_enter Tryz.func46,Tryz.ntmps46
   go_wp2_with (first | (go_at_call 80; refine HRD.mono ?_; rintro e w1 ⟨ev,rfl,hf,hb⟩; obtain rfl := fault_nil hf; have HB : Hid (Below w.heap.size w w1) := hb; clear hf hb) | (go_at_call 47; refine (HLK.out w1 HB.out).mono ?_; rintro e w2 ⟨rfl,hb2⟩; have HB2 : Hid (Below w.heap.size w w2) := HB.out.trans (hb2.mono HB.out.size); clear hb2))
   go_ret2
   exact ⟨by rw [HV.out]; rfl,HB2.out⟩

def said0 : Value := .agg #[.int .i64 0,.int .i64 0,.int .i64 0,.map none,.map none]
def saidV (log : List UInt8) (bi bp : Nat) : Value := .agg #[.int .i64 (hdBlk log),.int .i64 (hdSeed log),.int .i64 (hdBits log),.map (some bi),.map (some bp)]
theorem set5_at {W : World} {b : Nat} {v0 v1 v2 v3 v4 : Value} {t : TypeId} (h : Bx W b #[v0,v1,v2,v3,v4] t) (a0 a1 a2 a3 a4 : Value) (o : Obj) : ((((((W.setCell ⟨b,0,none⟩ a0).setCell ⟨b,1,none⟩ a1).setCell ⟨b,2,none⟩ a2).setCell ⟨b,3,none⟩ a3).setCell ⟨b,4,none⟩ a4).alloc o).cell? ⟨b,0,none⟩ = some a0 /\ ((((((W.setCell ⟨b,0,none⟩ a0).setCell ⟨b,1,none⟩ a1).setCell ⟨b,2,none⟩ a2).setCell ⟨b,3,none⟩ a3).setCell ⟨b,4,none⟩ a4).alloc o).cell? ⟨b,1,none⟩ = some a1 /\ ((((((W.setCell ⟨b,0,none⟩ a0).setCell ⟨b,1,none⟩ a1).setCell ⟨b,2,none⟩ a2).setCell ⟨b,3,none⟩ a3).setCell ⟨b,4,none⟩ a4).alloc o).cell? ⟨b,2,none⟩ = some a2 /\ ((((((W.setCell ⟨b,0,none⟩ a0).setCell ⟨b,1,none⟩ a1).setCell ⟨b,2,none⟩ a2).setCell ⟨b,3,none⟩ a3).setCell ⟨b,4,none⟩ a4).alloc o).cell? ⟨b,3,none⟩ = some a3 /\ ((((((W.setCell ⟨b,0,none⟩ a0).setCell ⟨b,1,none⟩ a1).setCell ⟨b,2,none⟩ a2).setCell ⟨b,3,none⟩ a3).setCell ⟨b,4,none⟩ a4).alloc o).cell? ⟨b,4,none⟩ = some a4 := by
 have y := (((((h.setj 0 a0).setj 1 a1).setj 2 a2).setj 3 a3).setj 4 a4).alloc o
 exact ⟨y.cell (j := 0) rfl,y.cell (j := 1) rfl,y.cell (j := 2) rfl,y.cell (j := 3) rfl,y.cell (j := 4) rfl⟩
theorem set5_at0 {W : World} {b : Nat} {v0 v1 v2 v3 v4 : Value} {t : TypeId} (h : Bx W b #[v0,v1,v2,v3,v4] t) (a0 a1 a2 a3 a4 : Value) : (((((W.setCell ⟨b,0,none⟩ a0).setCell ⟨b,1,none⟩ a1).setCell ⟨b,2,none⟩ a2).setCell ⟨b,3,none⟩ a3).setCell ⟨b,4,none⟩ a4).cell? ⟨b,0,none⟩ = some a0 /\ (((((W.setCell ⟨b,0,none⟩ a0).setCell ⟨b,1,none⟩ a1).setCell ⟨b,2,none⟩ a2).setCell ⟨b,3,none⟩ a3).setCell ⟨b,4,none⟩ a4).cell? ⟨b,1,none⟩ = some a1 /\ (((((W.setCell ⟨b,0,none⟩ a0).setCell ⟨b,1,none⟩ a1).setCell ⟨b,2,none⟩ a2).setCell ⟨b,3,none⟩ a3).setCell ⟨b,4,none⟩ a4).cell? ⟨b,2,none⟩ = some a2 /\ (((((W.setCell ⟨b,0,none⟩ a0).setCell ⟨b,1,none⟩ a1).setCell ⟨b,2,none⟩ a2).setCell ⟨b,3,none⟩ a3).setCell ⟨b,4,none⟩ a4).cell? ⟨b,3,none⟩ = some a3 /\ (((((W.setCell ⟨b,0,none⟩ a0).setCell ⟨b,1,none⟩ a1).setCell ⟨b,2,none⟩ a2).setCell ⟨b,3,none⟩ a3).setCell ⟨b,4,none⟩ a4).cell? ⟨b,4,none⟩ = some a4 := by
 have y := (((((h.setj 0 a0).setj 1 a1).setj 2 a2).setj 3 a3).setj 4 a4)
 exact ⟨y.cell (j := 0) rfl,y.cell (j := 1) rfl,y.cell (j := 2) rfl,y.cell (j := 3) rfl,y.cell (j := 4) rfl⟩
theorem below_set5b {w W : World} {b n : Nat} (h : Below n w W) (hb : n <= b) (a0 a1 a2 a3 a4 : Value) : Below n w (((((W.setCell ⟨b,0,none⟩ a0).setCell ⟨b,1,none⟩ a1).setCell ⟨b,2,none⟩ a2).setCell ⟨b,3,none⟩ a3).setCell ⟨b,4,none⟩ a4) :=
 ((((h.setCell hb _).setCell hb _).setCell hb _).setCell hb _).setCell hb _
theorem Maps2.chg {W W' : World} {F : Nat -> Prop} {bi bp n : Nat} {L : List Sd} (h : Maps2 W bi bp n L) (hc : Chg F W W') (h1 : ¬ F bi) (h2 : ¬ F bp) : Maps2 W' bi bp n L := by
 obtain ⟨DI,DP,⟨a,b,c⟩,d,e⟩ := h
 exact ⟨DI,DP,⟨ownMap_chg a hc h1,b,c⟩,ownMap_chg d hc h2,e⟩
theorem map_not_box {W : World} {k : TypeId} {R : Value -> Option (DataW Unit × List MemPlace)} {b n g : Nat} {D : DataW Unit} {cs : Array Value} {t : TypeId} (h : W.ownsMap Tryz.prog k R b n D) (hx : Bx W g cs t) : b ≠ g := by
 rintro rfl
 obtain ⟨es,ck,h1,r⟩ := h
 rw [show W.heap[b]? = _ from hx] at h1
 cases h1
theorem Maps2.set5 {W : World} {bi bp n b : Nat} {L : List Sd} {v0 v1 v2 v3 v4 : Value} {t : TypeId} (h : Maps2 W bi bp n L) (hx : Bx W b #[v0,v1,v2,v3,v4] t) (a0 a1 a2 a3 a4 : Value) : Maps2 (((((W.setCell ⟨b,0,none⟩ a0).setCell ⟨b,1,none⟩ a1).setCell ⟨b,2,none⟩ a2).setCell ⟨b,3,none⟩ a3).setCell ⟨b,4,none⟩ a4) bi bp n L := by
 have h' := h
 obtain ⟨DI,DP,⟨a,_,_⟩,d,_⟩ := h'
 have e1 := map_not_box a hx
 have e2 := map_not_box d hx
 exact h.chg (F := fun k => k = b) ((((((Chg.refl (fun k => k = b) W).set b 0 a0 (.inl rfl)).set b 1 a1 (.inl rfl)).set b 2 a2 (.inl rfl)).set b 3 a3 (.inl rfl)).set b 4 a4 (.inl rfl)) e1 e2
theorem below_set5 {w W : World} {b n : Nat} (h : Below n w W) (hb : n <= b) (hs : n <= W.heap.size) (a0 a1 a2 a3 a4 : Value) (o : Obj) : Below n w ((((((W.setCell ⟨b,0,none⟩ a0).setCell ⟨b,1,none⟩ a1).setCell ⟨b,2,none⟩ a2).setCell ⟨b,3,none⟩ a3).setCell ⟨b,4,none⟩ a4).alloc o) :=
 (((((h.setCell hb _).setCell hb _).setCell hb _).setCell hb _).setCell hb _).alloc (by simpa using hs) _
theorem said_begins (log ix : ByteArray) (w : World) (hlog : log.size <= 100000) (hix : ix.size <= 100000) (hH : HalvesAt w) (hne : beginsE log.data.toList ix.data.toList ≠ 0) :
  Calls Tryz.prog 83 #[.string log,.string ix] w fun e w' => e = .returned (.tuple #[said0,.int .i64 (beginsE log.data.toList ix.data.toList)]) /\ Below w.heap.size w w' := by
 have HO : Hid (∀ w1 : World,Below w.heap.size w w1 -> _) := fun w1 hb => open_any log ix w1 (by omega) (by omega) (hH.below hb hH.1)
 rw [openV_err rfl hne] at HO
 generalize beginsE log.data.toList ix.data.toList = code at *
 clear hH
 go_enter Tryz.func83,Tryz.ntmps83
 go_wp2_with (first | (go_at_call 81; refine (HO.out _ ?_).mono ?_; exact (Below.refl _ _).alloc (Nat.le_refl _) _; rintro e w1 ⟨rfl,hb⟩; have hx := (bx_new w #[.int .i64 0,.int .i64 0,.int .i64 0,.map none,.map none] 100 rfl).below hb (by simp); have HB : Hid (Below w.heap.size w w1) := ((Below.refl _ _).alloc (Nat.le_refl _) _).trans (hb.mono (by simp)); clear hb; have x0 : w1.cell? ⟨w.heap.size,0,none⟩ = some (.int .i64 0) := hx.cell (j := 0) rfl; have x1 : w1.cell? ⟨w.heap.size,1,none⟩ = some (.int .i64 0) := hx.cell (j := 1) rfl; have x2 : w1.cell? ⟨w.heap.size,2,none⟩ = some (.int .i64 0) := hx.cell (j := 2) rfl; have x3 : w1.cell? ⟨w.heap.size,3,none⟩ = some (.map none) := hx.cell (j := 3) rfl; have x4 : w1.cell? ⟨w.heap.size,4,none⟩ = some (.map none) := hx.cell (j := 4) rfl; have f0 := hx.frozen 0; have f1 := hx.frozen 1; have f2 := hx.frozen 2; have f3 := hx.frozen 3; have f4 := hx.frozen 4; have hz : w.heap.size < w1.heap.size := hx.lt; have ne1 : w.heap.size ≠ w1.heap.size := (by omega); have ne2 : w1.heap.size ≠ w.heap.size := (by omega); have HXw1 : Hid (Bx w1 w.heap.size #[.int .i64 0,.int .i64 0,.int .i64 0,.map none,.map none] 100) := hx; clear hx))
 have y := set5_at HXw1.out (.int .i64 0) (.int .i64 0) (.int .i64 0) (.map none) (.map none)
 have y0 := fun o => (y o).1
 have y1 := fun o => (y o).2.1
 have y2 := fun o => (y o).2.2.1
 have y3 := fun o => (y o).2.2.2.1
 have y4 := fun o => (y o).2.2.2.2
 refine bodyPost_ret (v := .tuple #[said0,.int .i64 code]) (by simp [results,Tryz.results83,go_sem,said0,y0,y1,y2,y3,y4]) rfl ⟨rfl,?_⟩
 exact below_set5 HB.out (Nat.le_refl _) (by omega) _ _ _ _ _ _
theorem said_goes (log ix : ByteArray) (w : World) (hlog : log.size <= 100000) (hix : ix.size <= 100000) (hH : HalvesAt w) (hbe : beginsE log.data.toList ix.data.toList = 0) :
  Calls Tryz.prog 83 #[.string log,.string ix] w fun e w' => ((indexS log.data.toList ≠ some ix.data.toList /\ e = .returned (.tuple #[said0,.int .i64 3])) \/ (∃ L bi bp n,saidS log.data.toList = some L /\ indexS log.data.toList = some ix.data.toList /\ e = .returned (.tuple #[saidV log.data.toList bi bp,.int .i64 0]) /\ Maps2 w' bi bp n L)) /\ Below w.heap.size w w' := by
 have hll : log.data.toList.length = log.size := by simp
 have HO : Hid (∀ w1 : World,Below w.heap.size w w1 -> _) := fun w1 hb => open_any log ix w1 (by omega) (by omega) (hH.below hb hH.1)
 have hov : ∃ v : Array Value,openV log ix = .tuple #[.agg v,.int .i64 0] /\ v.size = 10 /\ (∀ u ∈ v.toList,u.oneCell' = true) := by
  unfold openV; rw [if_pos hbe]; exact ⟨_,rfl,rfl,by simp [Value.oneCell']⟩
 have hi := indexS_said log.data.toList
 have HR : Hid (∀ w1 : World,Below w.heap.size w w1 -> Calls Tryz.prog 51 #[.string log] w1 fun e w' => ∃ v,e = .returned v /\ SaidIs w1 w' log.data.toList v /\ Below w1.heap.size w1 w') := fun w1 hb => read_any log w1 (by omega) (hH.below hb hH.1)
 unfold openV at HO
 rw [if_pos hbe] at HO
 unfold viewV at HO
 generalize hdBlk log.data.toList = q1 at HO
 generalize hdSeed log.data.toList = q2 at HO
 generalize hdBits log.data.toList = q3 at HO
 generalize ixLive ix.data.toList = q4 at HO
 generalize ixN ix.data.toList = q5 at HO
 generalize ixFar ix.data.toList = q6 at HO
 generalize ixSize ix.data.toList = q7 at HO
 generalize ixSum ix.data.toList = q8 at HO
 generalize S ((ix.data.toList.drop 20).take (10 * q5)) = q9 at HO
 cases hq : saidS log.data.toList with
 | none =>
  rw [hq] at hi
  have HN : Hid (indexS log.data.toList ≠ some ix.data.toList) := by show _ ≠ _; rw [hi]; simp
  have HR2 : Hid (∀ w1 : World,Below w.heap.size w w1 -> Calls Tryz.prog 51 #[.string log] w1 fun e w' => e = .returned (.tuple #[.agg #[.int .i64 0,.int .i64 0,.int .i64 0,.map none,.map none],.bool false]) /\ Below w1.heap.size w1 w') := fun w1 hb => (HR.out w1 hb).mono fun e w' ⟨v,a1,a2,a3⟩ => by
   unfold SaidIs at a2
   rw [hq] at a2
   simp only at a2
   subst a2
   exact ⟨a1,a3⟩
  clear hH hbe hov hi HR hq
  go_enter Tryz.func83,Tryz.ntmps83
  go_wp2_with (first | (go_at_call 81; refine (HO.out _ ?_).mono ?_; exact (Below.refl _ _).alloc (Nat.le_refl _) _; rintro e w1 ⟨rfl,hb⟩; have hz1 : w.heap.size + 1 <= w1.heap.size := (by have := hb.size; simp at this; omega); have HBA : Hid (Below _ _ w1) := hb; have HB : Hid (Below w.heap.size w w1) := ((Below.refl _ _).alloc (Nat.le_refl _) _).trans (hb.mono (by simp)); clear hb) | (go_at_call 51; refine (HR2.out _ ?_).mono ?_; exact HB.out.alloc (by omega) _; rintro e w2 ⟨rfl,hb2⟩; have hx := ((bx_new w #[.int .i64 0,.int .i64 0,.int .i64 0,.map none,.map none] 100 rfl).below HBA.out (by simp)); have hx := (hx.alloc (.cells #[.string log,.int .i64 q1,.int .i64 q2,.int .i64 q3,.int .i64 q4,.int .i64 q5,.int .i64 q6,.int .i64 q7,.int .i64 q8,.string q9] 141)).below hb2 (by simp; omega); have HB2 : Hid (Below w.heap.size w w2) := (HB.out.alloc (by omega) _).trans (hb2.mono (by simp; omega)); clear hb2; have x0 : w2.cell? ⟨w.heap.size,0,none⟩ = some (.int .i64 0) := hx.cell (j := 0) rfl; have x1 : w2.cell? ⟨w.heap.size,1,none⟩ = some (.int .i64 0) := hx.cell (j := 1) rfl; have x2 : w2.cell? ⟨w.heap.size,2,none⟩ = some (.int .i64 0) := hx.cell (j := 2) rfl; have x3 : w2.cell? ⟨w.heap.size,3,none⟩ = some (.map none) := hx.cell (j := 3) rfl; have x4 : w2.cell? ⟨w.heap.size,4,none⟩ = some (.map none) := hx.cell (j := 4) rfl; have f0 := hx.frozen 0; have f1 := hx.frozen 1; have f2 := hx.frozen 2; have f3 := hx.frozen 3; have f4 := hx.frozen 4; have hz : w.heap.size < w2.heap.size := hx.lt; have ne1 : w.heap.size ≠ w2.heap.size := (by omega); have ne2 : w2.heap.size ≠ w.heap.size := (by omega); have HXw2 : Hid (Bx w2 w.heap.size #[.int .i64 0,.int .i64 0,.int .i64 0,.map none,.map none] 100) := hx; clear hx))
  have y := set5_at HXw2.out (.int .i64 0) (.int .i64 0) (.int .i64 0) (.map none) (.map none)
  have y0 := fun o => (y o).1
  have y1 := fun o => (y o).2.1
  have y2 := fun o => (y o).2.2.1
  have y3 := fun o => (y o).2.2.2.1
  have y4 := fun o => (y o).2.2.2.2
  refine bodyPost_ret (v := .tuple #[said0,.int .i64 3]) (by simp [results,Tryz.results83,go_sem,said0,y0,y1,y2,y3,y4]) rfl ⟨.inl ⟨HN.out,rfl⟩,?_⟩
  exact below_set5 HB2.out (Nat.le_refl _) (by omega) _ _ _ _ _ _
 | some L =>
  rw [hq] at hi
  have hi2 : indexS log.data.toList = some (indexB log.data.toList (hdSeed log.data.toList) (hdBits log.data.toList) L) := hi
  obtain ⟨g1,g2,g3,g4,g5,g6,g7⟩ := said_facts hq
  have HR2 : Hid (∀ w1 : World,Below w.heap.size w w1 -> Calls Tryz.prog 51 #[.string log] w1 fun e w' => ∃ bi bp n,e = .returned (.tuple #[.agg #[.int .i64 (hdBlk log.data.toList : Int),.int .i64 (hdSeed log.data.toList : Int),.int .i64 (hdBits log.data.toList : Int),.map (some bi),.map (some bp)],.bool true]) /\ Maps2 w' bi bp n L /\ Below w1.heap.size w1 w') := fun w1 hb => (HR.out w1 hb).mono fun e w' ⟨v,a1,a2,a3⟩ => by
   unfold SaidIs at a2
   rw [hq] at a2
   obtain ⟨bi,bp,n,b1,b2,b3⟩ := a2
   subst b1
   exact ⟨bi,bp,n,a1,b2,a3⟩
  have HMK : Hid (∀ (wx : World) (bi bp n : Nat),Maps2 wx bi bp n L -> Below w.heap.size w wx -> Calls Tryz.prog 52 #[.string log,.agg #[.int .i64 (hdBlk log.data.toList : Int),.int .i64 (hdSeed log.data.toList : Int),.int .i64 (hdBits log.data.toList : Int),.map (some bi),.map (some bp)]] wx fun e w' => e = .returned (.string (S (indexB log.data.toList (hdSeed log.data.toList) (hdBits log.data.toList) L))) /\ Below wx.heap.size wx w') := fun wx bi bp n h1 h2 => make_any log (hdBlk log.data.toList) (hdSeed log.data.toList) (hdBits log.data.toList) bi bp n L wx h1 g1 g2 g3 g4 g5 (by omega) (hH.below h2 hH.1)
  have HVB : Hid (∀ bi bp : Nat,saidV log.data.toList bi bp = .agg #[.int .i64 (hdBlk log.data.toList : Int),.int .i64 (hdSeed log.data.toList : Int),.int .i64 (hdBits log.data.toList : Int),.map (some bi),.map (some bp)]) := fun _ _ => rfl
  have HQ : Hid (saidS log.data.toList = some L) := hq
  have HI2 : Hid (indexS log.data.toList = some (indexB log.data.toList (hdSeed log.data.toList) (hdBits log.data.toList) L)) := hi2
  clear hH hbe hov hi HR hq g1 g2 g3 g4 g5 g6 g7 hi2
  generalize indexB log.data.toList (hdSeed log.data.toList) (hdBits log.data.toList) L = I at *
  generalize hdBlk log.data.toList = k1 at *
  generalize hdSeed log.data.toList = k2 at *
  generalize hdBits log.data.toList = k3 at *
  by_cases heq : I = ix.data.toList
  ·have hcmp : ((S I).toList == ix.toList) = true := by rw [ByteArray.toList_eq,ByteArray.toList_eq,S_data,heq]; simp
   have HEQ : Hid (indexS log.data.toList = some ix.data.toList) := by show _ = _; rw [HI2.out,heq]
   clear heq
   go_enter Tryz.func83,Tryz.ntmps83
   go_wp2_with (first | (go_at_call 81; refine (HO.out _ ?_).mono ?_; exact (Below.refl _ _).alloc (Nat.le_refl _) _; rintro e w1 ⟨rfl,hb⟩; have hz1 : w.heap.size + 1 <= w1.heap.size := (by have := hb.size; simp at this; omega); have HBA : Hid (Below _ _ w1) := hb; have HB : Hid (Below w.heap.size w w1) := ((Below.refl _ _).alloc (Nat.le_refl _) _).trans (hb.mono (by simp)); clear hb) | (go_at_call 51; refine (HR2.out _ ?_).mono ?_; exact HB.out.alloc (by omega) _; rintro e w2 ⟨bi,bp,n,rfl,hm,hb2⟩; have hx := ((bx_new w #[.int .i64 0,.int .i64 0,.int .i64 0,.map none,.map none] 100 rfl).below HBA.out (by simp)); have hx := (hx.alloc (.cells #[.string log,.int .i64 q1,.int .i64 q2,.int .i64 q3,.int .i64 q4,.int .i64 q5,.int .i64 q6,.int .i64 q7,.int .i64 q8,.string q9] 141)).below hb2 (by simp; omega); have HX2 : Hid (Bx w2 w.heap.size #[.int .i64 0,.int .i64 0,.int .i64 0,.map none,.map none] 100) := hx; have hz2 : w.heap.size < w2.heap.size := hx.lt; have HB2 : Hid (Below w.heap.size w w2) := (HB.out.alloc (by omega) _).trans (hb2.mono (by simp; omega)); have HM : Hid (Maps2 w2 bi bp n L) := hm; clear hb2 hx hm) | (go_at_call 52; refine (HMK.out _ bi bp n ?_ ?_).mono ?_; exact HM.out.alloc _; exact HB2.out.alloc (by omega) _; rintro e w3 ⟨rfl,hb3⟩; have hs := (bx_new w2 #[.int .i64 (k1 : Int),.int .i64 (k2 : Int),.int .i64 (k3 : Int),.map (some bi),.map (some bp)] 100 rfl).below hb3 (by simp); have s0 : w3.cell? ⟨w2.heap.size,0,none⟩ = some (.int .i64 (k1 : Int)) := hs.cell (j := 0) rfl; have s1 : w3.cell? ⟨w2.heap.size,1,none⟩ = some (.int .i64 (k2 : Int)) := hs.cell (j := 1) rfl; have s2 : w3.cell? ⟨w2.heap.size,2,none⟩ = some (.int .i64 (k3 : Int)) := hs.cell (j := 2) rfl; have s3 : w3.cell? ⟨w2.heap.size,3,none⟩ = some (.map (some bi)) := hs.cell (j := 3) rfl; have s4 : w3.cell? ⟨w2.heap.size,4,none⟩ = some (.map (some bp)) := hs.cell (j := 4) rfl; have hx := (HX2.out.alloc (.cells #[.int .i64 (k1 : Int),.int .i64 (k2 : Int),.int .i64 (k3 : Int),.map (some bi),.map (some bp)] 100)).below hb3 (by simp; omega); have HB3 : Hid (Below w.heap.size w w3) := (HB2.out.alloc (by omega) _).trans (hb3.mono (by simp; omega)); have HM3 : Hid (Maps2 w3 bi bp n L) := (HM.out.alloc _).below hb3 (HM.out.alloc _).lt.1 (HM.out.alloc _).lt.2; clear hb3 hs; have x0 : w3.cell? ⟨w.heap.size,0,none⟩ = some (.int .i64 0) := hx.cell (j := 0) rfl; have x1 : w3.cell? ⟨w.heap.size,1,none⟩ = some (.int .i64 0) := hx.cell (j := 1) rfl; have x2 : w3.cell? ⟨w.heap.size,2,none⟩ = some (.int .i64 0) := hx.cell (j := 2) rfl; have x3 : w3.cell? ⟨w.heap.size,3,none⟩ = some (.map none) := hx.cell (j := 3) rfl; have x4 : w3.cell? ⟨w.heap.size,4,none⟩ = some (.map none) := hx.cell (j := 4) rfl; have f0 := hx.frozen 0; have f1 := hx.frozen 1; have f2 := hx.frozen 2; have f3 := hx.frozen 3; have f4 := hx.frozen 4; have hz : w.heap.size < w3.heap.size := hx.lt; have HXw3 : Hid (Bx w3 w.heap.size #[.int .i64 0,.int .i64 0,.int .i64 0,.map none,.map none] 100) := hx; clear hx))
   have y := set5_at0 HXw3.out (.int .i64 (k1 : Int)) (.int .i64 (k2 : Int)) (.int .i64 (k3 : Int)) (.map (some bi)) (.map (some bp))
   obtain ⟨y0,y1,y2,y3,y4⟩ := y
   refine bodyPost_ret (v := .tuple #[saidV log.data.toList bi bp,.int .i64 0]) (by rw [HVB.out]; simp [results,Tryz.results83,go_sem,y0,y1,y2,y3,y4]) rfl ⟨.inr ⟨L,bi,bp,n,rfl,HEQ.out,rfl,?_⟩,?_⟩
   ·exact HM3.out.set5 HXw3.out _ _ _ _ _
   ·exact below_set5b HB3.out (Nat.le_refl _) _ _ _ _ _
  ·have hcmp : ((S I).toList == ix.toList) = false := by
    rw [ByteArray.toList_eq,ByteArray.toList_eq,S_data,beq_eq_false_iff_ne]; exact heq
   have HNE : Hid (indexS log.data.toList ≠ some ix.data.toList) := by show _ ≠ _; rw [HI2.out]; intro e; exact heq (Option.some.inj e)
   clear heq
   go_enter Tryz.func83,Tryz.ntmps83
   go_wp2_with (first | (go_at_call 81; refine (HO.out _ ?_).mono ?_; exact (Below.refl _ _).alloc (Nat.le_refl _) _; rintro e w1 ⟨rfl,hb⟩; have hz1 : w.heap.size + 1 <= w1.heap.size := (by have := hb.size; simp at this; omega); have HBA : Hid (Below _ _ w1) := hb; have HB : Hid (Below w.heap.size w w1) := ((Below.refl _ _).alloc (Nat.le_refl _) _).trans (hb.mono (by simp)); clear hb) | (go_at_call 51; refine (HR2.out _ ?_).mono ?_; exact HB.out.alloc (by omega) _; rintro e w2 ⟨bi,bp,n,rfl,hm,hb2⟩; have hx := ((bx_new w #[.int .i64 0,.int .i64 0,.int .i64 0,.map none,.map none] 100 rfl).below HBA.out (by simp)); have hx := (hx.alloc (.cells #[.string log,.int .i64 q1,.int .i64 q2,.int .i64 q3,.int .i64 q4,.int .i64 q5,.int .i64 q6,.int .i64 q7,.int .i64 q8,.string q9] 141)).below hb2 (by simp; omega); have HX2 : Hid (Bx w2 w.heap.size #[.int .i64 0,.int .i64 0,.int .i64 0,.map none,.map none] 100) := hx; have hz2 : w.heap.size < w2.heap.size := hx.lt; have HB2 : Hid (Below w.heap.size w w2) := (HB.out.alloc (by omega) _).trans (hb2.mono (by simp; omega)); have HM : Hid (Maps2 w2 bi bp n L) := hm; clear hb2 hx hm) | (go_at_call 52; refine (HMK.out _ bi bp n ?_ ?_).mono ?_; exact HM.out.alloc _; exact HB2.out.alloc (by omega) _; rintro e w3 ⟨rfl,hb3⟩; have hs := (bx_new w2 #[.int .i64 (k1 : Int),.int .i64 (k2 : Int),.int .i64 (k3 : Int),.map (some bi),.map (some bp)] 100 rfl).below hb3 (by simp); have s0 : w3.cell? ⟨w2.heap.size,0,none⟩ = some (.int .i64 (k1 : Int)) := hs.cell (j := 0) rfl; have s1 : w3.cell? ⟨w2.heap.size,1,none⟩ = some (.int .i64 (k2 : Int)) := hs.cell (j := 1) rfl; have s2 : w3.cell? ⟨w2.heap.size,2,none⟩ = some (.int .i64 (k3 : Int)) := hs.cell (j := 2) rfl; have s3 : w3.cell? ⟨w2.heap.size,3,none⟩ = some (.map (some bi)) := hs.cell (j := 3) rfl; have s4 : w3.cell? ⟨w2.heap.size,4,none⟩ = some (.map (some bp)) := hs.cell (j := 4) rfl; have hx := (HX2.out.alloc (.cells #[.int .i64 (k1 : Int),.int .i64 (k2 : Int),.int .i64 (k3 : Int),.map (some bi),.map (some bp)] 100)).below hb3 (by simp; omega); have HB3 : Hid (Below w.heap.size w w3) := (HB2.out.alloc (by omega) _).trans (hb3.mono (by simp; omega)); have HM3 : Hid (Maps2 w3 bi bp n L) := (HM.out.alloc _).below hb3 (HM.out.alloc _).lt.1 (HM.out.alloc _).lt.2; clear hb3 hs; have x0 : w3.cell? ⟨w.heap.size,0,none⟩ = some (.int .i64 0) := hx.cell (j := 0) rfl; have x1 : w3.cell? ⟨w.heap.size,1,none⟩ = some (.int .i64 0) := hx.cell (j := 1) rfl; have x2 : w3.cell? ⟨w.heap.size,2,none⟩ = some (.int .i64 0) := hx.cell (j := 2) rfl; have x3 : w3.cell? ⟨w.heap.size,3,none⟩ = some (.map none) := hx.cell (j := 3) rfl; have x4 : w3.cell? ⟨w.heap.size,4,none⟩ = some (.map none) := hx.cell (j := 4) rfl; have f0 := hx.frozen 0; have f1 := hx.frozen 1; have f2 := hx.frozen 2; have f3 := hx.frozen 3; have f4 := hx.frozen 4; have hz : w.heap.size < w3.heap.size := hx.lt; have HXw3 : Hid (Bx w3 w.heap.size #[.int .i64 0,.int .i64 0,.int .i64 0,.map none,.map none] 100) := hx; clear hx))
   have y := set5_at0 HXw3.out (.int .i64 0) (.int .i64 0) (.int .i64 0) (.map none) (.map none)
   obtain ⟨y0,y1,y2,y3,y4⟩ := y
   refine bodyPost_ret (v := .tuple #[said0,.int .i64 3]) (by simp [results,Tryz.results83,go_sem,said0,y0,y1,y2,y3,y4]) rfl ⟨.inl ⟨HNE.out,rfl⟩,?_⟩
   exact below_set5b HB3.out (Nat.le_refl _) _ _ _ _ _
end Go.Proofs.YtdhgebdbiehchaaGreatDoor
